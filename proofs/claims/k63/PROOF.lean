import PyProof.Rows.All
import Wide.All
import OpenK.AllK
import Wide.FinOn
import HandS.ForMost
import HandS.ForExc
import HandS.AnyAll
import HandS.EndTab
import HandS.GenList
import HandS.TupAny
import HandS.Wide
import HandS.TupMul
import HandS.Deep
import HandS.More
import HandS.RaiseMore
import HandS.GenBody
import HandS.GenCall
import HandS.GenYield
import PyProof.TupleOfGen
import HandS.Nested
import KE.KNest
import KE.KNestM
import HandS.IsInst
import HandS.Strs
import PyProof.EnumMake
import PyProof.Draws
import KE.GoesMore
import HandS.Zip
import HandS.SetFor
import HandS.Style
import HandS.ExcInit
import HandS.ExcField
import HandS.ExcIs
import HandS.TryOnly
import HandS.FStr
import KE.KExcIs
import HandS.ClsMeth
import HandS.SortRule
import HandS.TupSets
import KE.SortData
import KE.DataMinMax
import HandS.Conv
import KE.KDictZip
import HandS.Flow
import PySem.Challenge.RW_bowstands_k63_whole_hurdles
set_option Elab.async false
set_option linter.all false
set_option maxRecDepth 100000
set_option maxHeartbeats 4000000
namespace Vw
open PySem PySem.Spec PyProof.Rows L2
abbrev Clr (A : Around) : Prop := A.guards = some []
structure FnG (P : Program) (w : World) (K : PySem.W.Frag) (mg : Str → Option Value) (base : Heap) (CX : CXT) (k : Nat) (f : Addr) (fd : FuncData) (ps : List Str) (sp : Sp) : Prop where
  len : ∀ vs H Q E, sp vs H Q E → vs.length = ps.length
  run : ∀ (A : Around) (outer : List Env) (s : Shared) (H : Hp) (args : Args) (us : List Value) (vs : List V) (Q : VK) (E : XK),
    Room k A → Clr A → Env0 P w K mg base A outer s H → BindsTo s fd args (ps.zip us) → Vals vs us → sp vs H Q E →
    codeAny (model P w) A (.call (.ref f) args) (CR CX outer P w H s Q E) s
/-- what comes back of a body is what the call gives -/
theorem back {P : Program} {w : World} {CX : CXT} {outer : List Env} {X : Cx} {s s' : Shared} {H : Hp} {Q : VK} {E : XK} {fl : Flow}
    (eo : X.outer = outer) (es : X.s_0 = s) (eh : X.H_0 = H) (ee : X.ex = []) (ep : X.prog = P) (ew : X.w = w)
    (h : SP X [] { nx := fun _ H' => Q .non H', rt := Q } fl s') : CR CX outer P w H s Q E (.ok (match fl with | .ret u => .ret u | _ => .ret .none)) s' := by
  subst eo es eh ep ew
  have go : ∀ {σ' : L2.St} {H' : Hp} {v : V} {u : Value}, Inv X [] σ' H' s' → RelV v u → Q v H' →
      CE X.outer X.prog X.w X.H_0 X.s_0 Q u s' := by
    intro σ' H' v u J rv q
    refine ⟨v, H', J.os, J.bare, ?_, J.hok, rv, q⟩
    have b := J.base
    rw [ee] at b
    exact b
  cases fl with
  | ret u => obtain ⟨v, σ', H', J, rv, q⟩ := h; exact go J rv q
  | next => obtain ⟨σ', H', J, q⟩ := h; exact go (v := .non) (u := .none) J rfl q
  | brk => obtain ⟨_, _, _, q⟩ := h; exact q.elim
  | cont => obtain ⟨_, _, _, q⟩ := h; exact q.elim
theorem fnG_of {CX : CXT} {P : Program} {w : World} {K : PySem.W.Frag} {mg : Str → Option Value} {base : Heap} {k : Nat} {f : Addr} {x qual : Str} {st : Stmt} {fd : FuncData}
    {N ps : List Str} {sp : Sp} (F : Fun K x qual st f fd) (S : FnScope N ps (defScope st))
    (len : ∀ vs H Q E, sp vs H Q E → vs.length = ps.length)
    (body : ∀ (cdv : Value) (A : Around) (outer : List Env) (s : Shared) (H : Hp) (vs : List V) (Q : VK) (E : XK),
      fd.code = cdv → PySem.W.codeIn K cdv qual = true → Clr A →
      Room k (A.deeper (envOfC qual (defScope st) s.heap.objs.size f cdv)) → sp vs H Q E →
      ∃ t, PSs (cxOf CX P w K mg base N qual (defScope st) f cdv A outer s H E) (defBody st) t ∧
        t { nx := fun _ H' => Q .non H', rt := Q } (L2.start N vs) H) :
    FnG P w K mg base CX (k + 1) f fd ps sp := by
  obtain ⟨oc, od, kV, doc, pm, an, cdv, ct, osl, rfl, lk, hcd⟩ := F.ex
  constructor
  · exact len
  intro A outer s H args us vs Q E hr hc e0 hb r hsp
  have hl := len _ _ _ _ hsp
  have old : ∀ b o, base.get? b = some o → s.heap.get? b = some o := fun b o e => (e0.bs b o e).1
  have KX : K.In s.heap := e0.mod.kin.keeps old
  have lim : s.heap.NoLimit := e0.mod.nolimit.keeps old
  refine codeAny_call_function hr.depth (KX _ _ lk) rfl S.co S.gen rfl (PySem.W.codeRec_of KX hcd) (hb _ _ _ _ ?_)
  refine wpAny_newFunctionEnv_cells S.kind ?_ ?_
  · rintro ⟨n, v⟩ hy
    rcases S.par n (List.of_mem_zip hy).1 with q | q
    · left; exact q
    · right; exact ⟨q, PySem.W.cellsFrom_some _ _ _ (.inl q)⟩
  rintro env rfl s1 x
  refine ⟨lim.keeps x.toInCall.keep, codeAny_func ?_⟩
  obtain ⟨t, ht, hq⟩ := body cdv A outer s H vs Q E rfl hcd hc (hr.deeper _) hsp
  have I := inv_start (CX := CX) (E := E) S hr.hd e0 hl r x
  refine wpAny_mono (ht.run [] s1 (L2.start N vs) H _ I hq) ?_ (fun e s' hs => hs)
  intro fl s' hs
  have q := back (CX := CX) (E := E) (outer := outer) (s := s) (H := H) (P := P) (w := w) rfl rfl rfl rfl rfl rfl hs
  cases fl with
  | ret u => exact q
  | next => exact q
  | brk => obtain ⟨_, _, _, z⟩ := hs; exact z.elim
  | cont => obtain ⟨_, _, _, z⟩ := hs; exact z.elim
end Vw
set_option maxRecDepth 100000
set_option maxHeartbeats 4000000
namespace Vw
open PySem PySem.Spec L2
/-- a value as data: tuples and unchanged lists and dicts by what they hold, changed ones by the number of their cell -/
inductive D where
  | non | bl (b : Bool) | int (i : Int) | str (x : Str) | tup (xs : List D) | lst (xs : List D) | dic (ks : List Key) (vs : List D) | loc (n : Nat) | scr (xs : List D)
inductive Cell where
  | lst (xs : List D) | dic (ks : List Key) (vs : List D)
abbrev Sto := List Cell
abbrev Gam := List (Option D)
mutual
inductive Rep (K : PySem.W.Frag × List Addr) (H : Hp) (m : List Addr) : V → D → Prop
  | non : Rep K H m .non .non
  | bl (b : Bool) : Rep K H m (.bl b) (.bl b)
  | int (i : Int) : Rep K H m (.int i) (.int i)
  | str (x : Str) : Rep K H m (.str x) (.str x)
  | tup {a : Addr} {xs : List V} {ds : List D} : SqT K.1 H a xs → Reps K H m xs ds → Rep K H m (.ref a) (.tup ds)
  | lst {a : Addr} {xs : List V} {ds : List D} : H a = some (.lst xs) → a ∉ m → a ∉ K.2 → Reps K H m xs ds → Rep K H m (.ref a) (.lst ds)
  | dic {a : Addr} {kvs : List (Key × V)} {ks : List Key} {ds : List D} : Rd H a (.dK kvs) → a ∉ m → a ∉ K.2 → kvs.map (·.1) = ks → Reps K H m (kvs.map (·.2)) ds → Rep K H m (.ref a) (.dic ks ds)
  | loc {n : Nat} {a : Addr} : m[n]? = some a → Rep K H m (.ref a) (.loc n)
  | scr {a : Addr} {xs : List V} {ds : List D} : Rd H a (.lst xs) → a ∉ m → a ∉ K.2 → Reps K H m xs ds → Rep K H m (.ref a) (.scr ds)
  | scrK {a : Addr} {xs : List V} {ds : List D} : SqL K.1 (fun _ => none) a xs → Reps K H m xs ds → Rep K H m (.ref a) (.scr ds)
inductive Reps (K : PySem.W.Frag × List Addr) (H : Hp) (m : List Addr) : List V → List D → Prop
  | nil : Reps K H m [] []
  | cons {v : V} {vs : List V} {d : D} {ds : List D} : Rep K H m v d → Reps K H m vs ds → Reps K H m (v :: vs) (d :: ds)
end
section
variable {K : PySem.W.Frag × List Addr} {H H' : Hp} {m m' : List Addr}
theorem Reps.len : ∀ {vs : List V} {ds : List D}, Reps K H m vs ds → vs.length = ds.length
  | _, _, .nil => rfl
  | _, _, .cons _ t => congrArg (· + 1) t.len
theorem Reps.get : ∀ {vs : List V} {ds : List D} {i : Nat} {d : D}, Reps K H m vs ds → ds[i]? = some d → ∃ v, vs[i]? = some v ∧ Rep K H m v d
  | _, _, _, _, .nil, e => by simp at e
  | _, _, 0, _, .cons r _, e => by cases e; exact ⟨_, rfl, r⟩
  | _, _, i + 1, d, .cons _ t, e => t.get (i := i) (by simpa using e)
theorem Reps.app : ∀ {vs us : List V} {ds es : List D}, Reps K H m vs ds → Reps K H m us es → Reps K H m (vs ++ us) (ds ++ es)
  | _, _, _, _, .nil, s => s
  | _, _, _, _, .cons r t, s => .cons r (t.app s)
theorem Reps.take : ∀ {vs : List V} {ds : List D} (n : Nat), Reps K H m vs ds → Reps K H m (vs.take n) (ds.take n)
  | _, _, 0, _ => .nil
  | _, _, _ + 1, .nil => .nil
  | _, _, n + 1, .cons r t => .cons r (t.take n)
theorem Reps.drop : ∀ {vs : List V} {ds : List D} (n : Nat), Reps K H m vs ds → Reps K H m (vs.drop n) (ds.drop n)
  | _, _, 0, r => r
  | _, _, _ + 1, .nil => .nil
  | _, _, n + 1, .cons _ t => t.drop n
theorem Reps.set : ∀ {vs : List V} {ds : List D} {v : V} {d : D} (n : Nat), Reps K H m vs ds → Rep K H m v d → Reps K H m (vs.set n v) (ds.set n d)
  | _, _, _, _, _, .nil, _ => .nil
  | _, _, _, _, 0, .cons _ t, q => .cons q t
  | _, _, _, _, n + 1, .cons r t, q => .cons r (t.set n q)
theorem Reps.one {v : V} {d : D} (r : Rep K H m v d) : Reps K H m [v] [d] := .cons r .nil
end
/-- a tuple that was made is known to have no dict of its own -/
def TupOk : HO → Prop
  | .tup _ => False
  | .frz o (.tup _) => o.dict = none
  | _ => True
structure TupsOk (K : PySem.W.Frag) (H : Hp) : Prop where
  hp : ∀ a u, H a = some u → TupOk u
  kt : ∀ a o, K.lookup a = some o → o.cls = .type "tuple" → o.dict = none
theorem TupsOk.upd {K : PySem.W.Frag} {H : Hp} {p : Addr} {o : HO} (t : TupsOk K H) (h : TupOk o) : TupsOk K (L2.upd H p o) := ⟨fun a u e => by
  by_cases z : a = p
  · subst z; rw [upd_same] at e; cases e; exact h
  · rw [upd_ne z] at e; exact t.hp a u e, t.kt⟩
/-- the cells lie at the addresses m; nothing of the code's tables (at T) is among them -/
structure Ok (K : PySem.W.Frag × List Addr) (T : List Addr) (H : Hp) (m : List Addr) (S : Sto) : Prop where
  nd : m.Nodup
  len : m.length = S.length
  lst : ∀ (n : Nat) (a : Addr) (ds : List D), m[n]? = some a → S[n]? = some (Cell.lst ds) → ∃ xs, H a = some (.lst xs) ∧ Reps K H m xs ds
  dic : ∀ (n : Nat) (a : Addr) (ks : List Key) (ds : List D), m[n]? = some a → S[n]? = some (Cell.dic ks ds) → ∃ kvs, H a = some (.dK kvs) ∧ kvs.map (·.1) = ks ∧ Reps K H m (kvs.map (·.2)) ds
  tab : ∀ P ∈ T, GxR.TabG H P
  hid : ∀ a ∈ K.2, a ∉ m ∧ H a ≠ none
  tp : TupsOk K.1 H
/-- later: what is no cell and no table is as it was; new cells are new -/
structure Ext (T : List Addr) (H : Hp) (m : List Addr) (H' : Hp) (m' : List Addr) : Prop where
  pre : ∃ more, m' = m ++ more
  old : ∀ a o, H a = some o → a ∉ m → a ∉ T → H' a = some o
  new : ∀ a, a ∈ m' → a ∉ m → a ∉ T → H a = none
section
variable {K : PySem.W.Frag × List Addr} {T : List Addr} {H H1 H2 : Hp} {m m1 m2 : List Addr} {S S1 : Sto}
theorem Ok.cell (ok : Ok K T H m S) {a : Addr} (h : a ∈ m) : (∃ xs, H a = some (.lst xs)) ∨ ∃ kvs, H a = some (.dK kvs) := by
  obtain ⟨n, hn, e⟩ := List.mem_iff_getElem.mp h
  have e1 : m[n]? = some a := by rw [List.getElem?_eq_getElem hn, e]
  have hs : n < S.length := by rw [← ok.len]; exact hn
  cases q : S[n] with
  | lst ds =>
    obtain ⟨xs, hx, _⟩ := ok.lst n a ds e1 (by rw [List.getElem?_eq_getElem hs, q])
    exact .inl ⟨xs, hx⟩
  | dic ks ds =>
    obtain ⟨kvs, hx, _⟩ := ok.dic n a ks ds e1 (by rw [List.getElem?_eq_getElem hs, q])
    exact .inr ⟨kvs, hx⟩
theorem Ok.noTab (ok : Ok K T H m S) {a : Addr} (h : a ∈ m) : a ∉ T := fun z => by
  obtain ⟨ps, e, _⟩ := ok.tab a z
  rcases ok.cell h with ⟨xs, q⟩ | ⟨xs, q⟩ <;> · rw [e] at q; cases q
theorem Ok.free (ok : Ok K T H m S) {a : Addr} (h : H a = none) : a ∉ m ∧ a ∉ T ∧ a ∉ K.2 := by
  refine ⟨?_, ?_, fun z => (ok.hid a z).2 h⟩
  · intro z
    rcases ok.cell z with ⟨xs, q⟩ | ⟨xs, q⟩ <;> · rw [h] at q; cases q
  · intro z
    obtain ⟨ps, e, _⟩ := ok.tab a z
    rw [h] at e; cases e
theorem Ext.refl : Ext T H m H m := ⟨⟨[], by simp⟩, fun _ _ h _ _ => h, fun _ h n _ => absurd h n⟩
theorem Ext.mem (x : Ext T H m H1 m1) {a : Addr} (h : a ∈ m) : a ∈ m1 := by
  obtain ⟨r, e⟩ := x.pre
  rw [e]; exact List.mem_append_left _ h
theorem Ext.at (x : Ext T H m H1 m1) {n : Nat} {a : Addr} (h : m[n]? = some a) : m1[n]? = some a := by
  obtain ⟨r, e⟩ := x.pre
  have hn := (List.getElem?_eq_some_iff.mp h).1
  rw [e, List.getElem?_append_left hn]; exact h
theorem Ext.trans (x : Ext T H m H1 m1) (y : Ext T H1 m1 H2 m2) : Ext T H m H2 m2 where
  pre := by
    obtain ⟨r, e⟩ := x.pre
    obtain ⟨r', e'⟩ := y.pre
    exact ⟨r ++ r', by rw [e', e, List.append_assoc]⟩
  old := fun a o h n t => y.old a o (x.old a o h n t) (fun z => by rw [x.new a z n t] at h; cases h) t
  new := fun a h n t => by
    by_cases z : a ∈ m1
    · exact x.new a z n t
    · cases q : H a with
      | none => rfl
      | some o =>
        have e := y.new a h z t
        rw [x.old a o q n t] at e; cases e
mutual
/-- all tracked things are as they were -/
theorem Rep.keep (k : ∀ a u, H a = some u → H1 a = some u) : ∀ {v : V} {d : D}, Rep K H m v d → Rep K H1 m v d
  | _, _, .non => .non
  | _, _, .bl b => .bl b
  | _, _, .int i => .int i
  | _, _, .str z => .str z
  | _, _, .tup h r => .tup (by
      rcases h with (h | ⟨o, h⟩) | h
      · exact .inl (.inl (k _ _ h))
      · exact .inl (.inr ⟨o, k _ _ h⟩)
      · exact .inr h) (Reps.keep k r)
  | _, _, .lst h n z r => .lst (k _ _ h) n z (Reps.keep k r)
  | _, _, .dic h n z e r => .dic (by
      rcases h with h | ⟨o, h⟩
      · exact .inl (k _ _ h)
      · exact .inr ⟨o, k _ _ h⟩) n z e (Reps.keep k r)
  | _, _, .loc h => .loc h
  | _, _, .scr h n z r => .scr (by
      rcases h with h | ⟨o, h⟩
      · exact .inl (k _ _ h)
      · exact .inr ⟨o, k _ _ h⟩) n z (Reps.keep k r)
  | _, _, .scrK h r => .scrK h (Reps.keep k r)
theorem Reps.keep (k : ∀ a u, H a = some u → H1 a = some u) : ∀ {vs : List V} {ds : List D}, Reps K H m vs ds → Reps K H1 m vs ds
  | _, _, .nil => .nil
  | _, _, .cons r t => .cons (Rep.keep k r) (Reps.keep k t)
end
theorem Ext.rdT {K0 : PySem.W.Frag × List Addr} (x : Ext T H m H1 m1) (ok : Ok K0 T H m S) {a : Addr} {xs : List V} (h : SqT K.1 H a xs) : SqT K.1 H1 a xs := by
  rcases h with (h | ⟨o, h⟩) | h
  · refine .inl (.inl (x.old _ _ h (fun z => ?_) fun z => ?_))
    · rcases ok.cell z with ⟨ys, q⟩ | ⟨ys, q⟩ <;> · rw [h] at q; cases q
    · obtain ⟨ps, q, _⟩ := ok.tab a z
      rw [h] at q; cases q
  · refine .inl (.inr ⟨o, x.old _ _ h (fun z => ?_) fun z => ?_⟩)
    · rcases ok.cell z with ⟨ys, q⟩ | ⟨ys, q⟩ <;> · rw [h] at q; cases q
    · obtain ⟨ps, q, _⟩ := ok.tab a z
      rw [h] at q; cases q
  · exact .inr h
theorem Ext.rd {K0 : PySem.W.Frag × List Addr} (x : Ext T H m H1 m1) (ok : Ok K0 T H m S) {a : Addr} {u : HO} (hu : ∀ ps, u ≠ .tbl ps) (h : Rd H a u) (n : a ∉ m) : Rd H1 a u ∧ a ∉ m1 := by
  have nt : a ∉ T := fun z => by
    obtain ⟨ps, q, _⟩ := ok.tab a z
    rcases h with h | ⟨o, h⟩
    · rw [h] at q; exact hu ps (Option.some.inj q)
    · rw [h] at q; cases q
  refine ⟨?_, fun z => ?_⟩
  · rcases h with h | ⟨o, h⟩
    · exact .inl (x.old _ _ h n nt)
    · exact .inr ⟨o, x.old _ _ h n nt⟩
  · have e := x.new a z n nt
    rcases h with h | ⟨o, h⟩ <;> · rw [h] at e; cases e
theorem Ext.lst {K0 : PySem.W.Frag × List Addr} (x : Ext T H m H1 m1) (ok : Ok K0 T H m S) {a : Addr} {xs : List V} (h : H a = some (.lst xs)) (n : a ∉ m) : H1 a = some (.lst xs) ∧ a ∉ m1 := by
  have nt : a ∉ T := fun z => by
    obtain ⟨ps, q, _⟩ := ok.tab a z
    rw [h] at q; cases q
  refine ⟨x.old _ _ h n nt, fun z => ?_⟩
  have e := x.new a z n nt
  rw [h] at e; cases e
mutual
theorem Rep.mono {K0 : PySem.W.Frag × List Addr} (x : Ext T H m H1 m1) (ok : Ok K0 T H m S) : ∀ {v : V} {d : D}, Rep K H m v d → Rep K H1 m1 v d
  | _, _, .non => .non
  | _, _, .bl b => .bl b
  | _, _, .int i => .int i
  | _, _, .str z => .str z
  | _, _, .tup h r => .tup (x.rdT ok h) (Reps.mono x ok r)
  | _, _, .lst h n z r => .lst (x.lst ok h n).1 (x.lst ok h n).2 z (Reps.mono x ok r)
  | _, _, .dic h n z e r => .dic (x.rd ok (by intro ps z; cases z) h n).1 (x.rd ok (by intro ps z; cases z) h n).2 z e (Reps.mono x ok r)
  | _, _, .loc h => .loc (x.at h)
  | _, _, .scr h n z r => .scr (x.rd ok (by intro ps z; cases z) h n).1 (x.rd ok (by intro ps z; cases z) h n).2 z (Reps.mono x ok r)
  | _, _, .scrK h r => .scrK h (Reps.mono x ok r)
theorem Reps.mono {K0 : PySem.W.Frag × List Addr} (x : Ext T H m H1 m1) (ok : Ok K0 T H m S) : ∀ {vs : List V} {ds : List D}, Reps K H m vs ds → Reps K H1 m1 vs ds
  | _, _, .nil => .nil
  | _, _, .cons r t => .cons (Rep.mono x ok r) (Reps.mono x ok t)
end
/-- later, where lists that nobody knows (among Z) may have changed -/
def ExtH (Z T : List Addr) (H : Hp) (m : List Addr) (H' : Hp) (m' : List Addr) : Prop := ∃ B : List Addr, (∀ a ∈ B, a ∈ Z ∧ ∃ xs, H a = some (.lst xs)) ∧ Ext (B ++ T) H m H' m'
theorem Ext.more {B : List Addr} (x : Ext T H m H1 m1) : Ext (B ++ T) H m H1 m1 :=
  ⟨x.pre, fun a o h n t => x.old a o h n fun z => t (List.mem_append_right _ z), fun a h n t => x.new a h n fun z => t (List.mem_append_right _ z)⟩
theorem Ext.h {Z : List Addr} (x : Ext T H m H1 m1) : ExtH Z T H m H1 m1 := ⟨[], fun a ha => (by cases ha), x⟩
theorem ExtH.at {Z : List Addr} (x : ExtH Z T H m H1 m1) {n : Nat} {a : Addr} (h : m[n]? = some a) : m1[n]? = some a := by
  obtain ⟨B, _, x⟩ := x
  exact x.at h
theorem ExtH.keep {Z : List Addr} {K0 : PySem.W.Frag × List Addr} (x : ExtH Z T H m H1 m1) (ok : Ok K0 T H m S) {a : Addr} {u : HO} (h : H a = some u) (n : a ∉ m) (hu : ∀ ps, u ≠ .tbl ps) (hl : (∀ xs, u ≠ .lst xs) ∨ a ∉ Z) : H1 a = some u := by
  obtain ⟨B, hB, x⟩ := x
  refine x.old _ _ h n fun z => ?_
  rcases List.mem_append.mp z with z | z
  · obtain ⟨h1, xs, h2⟩ := hB a z
    rcases hl with hl | hl
    · rw [h] at h2; exact hl xs (Option.some.inj h2)
    · exact hl h1
  · obtain ⟨ps, q, _⟩ := ok.tab a z
    rw [h] at q; exact hu ps (Option.some.inj q)
theorem ExtH.no {Z : List Addr} {K0 : PySem.W.Frag × List Addr} (x : ExtH Z T H m H1 m1) (ok : Ok K0 T H m S) {a : Addr} {u : HO} (h : H a = some u) (n : a ∉ m) (hu : ∀ ps, u ≠ .tbl ps) (hl : (∀ xs, u ≠ .lst xs) ∨ a ∉ Z) : a ∉ m1 := fun z => by
  obtain ⟨B, hB, x⟩ := x
  have e := x.new a z n fun z => by
    rcases List.mem_append.mp z with z | z
    · obtain ⟨h1, xs, h2⟩ := hB a z
      rcases hl with hl | hl
      · rw [h] at h2; exact hl xs (Option.some.inj h2)
      · exact hl h1
    · obtain ⟨ps, q, _⟩ := ok.tab a z
      rw [h] at q; exact hu ps (Option.some.inj q)
  rw [h] at e; cases e
theorem ExtH.rdT {Z : List Addr} {K0 : PySem.W.Frag × List Addr} (x : ExtH Z T H m H1 m1) (ok : Ok K0 T H m S) {a : Addr} {xs : List V} (h : SqT K.1 H a xs) : SqT K.1 H1 a xs := by
  have nm : ∀ {u : HO}, H a = some u → (∀ ys, u ≠ .lst ys) → (∀ kvs, u ≠ .dK kvs) → a ∉ m := fun h h1 h2 z => by
    rcases ok.cell z with ⟨ys, q⟩ | ⟨ys, q⟩
    · rw [h] at q; exact h1 ys (Option.some.inj q)
    · rw [h] at q; exact h2 ys (Option.some.inj q)
  rcases h with (h | ⟨o, h⟩) | h
  · exact .inl (.inl (x.keep ok h (nm h (fun _ z => by cases z) fun _ z => by cases z) (fun _ z => by cases z) (.inl fun _ z => by cases z)))
  · exact .inl (.inr ⟨o, x.keep ok h (nm h (fun _ z => by cases z) fun _ z => by cases z) (fun _ z => by cases z) (.inl fun _ z => by cases z)⟩)
  · exact .inr h
theorem ExtH.rd {Z : List Addr} {K0 : PySem.W.Frag × List Addr} (x : ExtH Z T H m H1 m1) (ok : Ok K0 T H m S) {a : Addr} {u : HO} (hu : ∀ ps, u ≠ .tbl ps) (h : Rd H a u) (n : a ∉ m) (hl : (∀ xs, u ≠ .lst xs) ∨ a ∉ Z) : Rd H1 a u ∧ a ∉ m1 := by
  rcases h with h | ⟨o, h⟩
  · exact ⟨.inl (x.keep ok h n hu hl), x.no ok h n hu hl⟩
  · exact ⟨.inr ⟨o, x.keep ok h n (fun _ z => by cases z) (.inl fun _ z => by cases z)⟩, x.no ok h n (fun _ z => by cases z) (.inl fun _ z => by cases z)⟩
theorem ExtH.lst {Z : List Addr} {K0 : PySem.W.Frag × List Addr} (x : ExtH Z T H m H1 m1) (ok : Ok K0 T H m S) {a : Addr} {xs : List V} (h : H a = some (.lst xs)) (n : a ∉ m) (z : a ∉ Z) : H1 a = some (.lst xs) ∧ a ∉ m1 :=
  ⟨x.keep ok h n (fun _ z => by cases z) (.inr z), x.no ok h n (fun _ z => by cases z) (.inr z)⟩
mutual
theorem Rep.monoH {Z : List Addr} {K0 : PySem.W.Frag × List Addr} (hz : ∀ a ∈ Z, a ∈ K.2) (x : ExtH Z T H m H1 m1) (ok : Ok K0 T H m S) : ∀ {v : V} {d : D}, Rep K H m v d → Rep K H1 m1 v d
  | _, _, .non => .non
  | _, _, .bl b => .bl b
  | _, _, .int i => .int i
  | _, _, .str z => .str z
  | _, _, .tup h r => .tup (x.rdT ok h) (Reps.monoH hz x ok r)
  | _, _, .lst h n z r => .lst (x.lst ok h n fun w => z (hz _ w)).1 (x.lst ok h n fun w => z (hz _ w)).2 z (Reps.monoH hz x ok r)
  | _, _, .dic h n z e r => .dic (x.rd ok (by intro ps z; cases z) h n (.inr fun w => z (hz _ w))).1 (x.rd ok (by intro ps z; cases z) h n (.inr fun w => z (hz _ w))).2 z e (Reps.monoH hz x ok r)
  | _, _, .loc h => .loc (x.at h)
  | _, _, .scr h n z r => .scr (x.rd ok (by intro ps z; cases z) h n (.inr fun w => z (hz _ w))).1 (x.rd ok (by intro ps z; cases z) h n (.inr fun w => z (hz _ w))).2 z (Reps.monoH hz x ok r)
  | _, _, .scrK h r => .scrK h (Reps.monoH hz x ok r)
theorem Reps.monoH {Z : List Addr} {K0 : PySem.W.Frag × List Addr} (hz : ∀ a ∈ Z, a ∈ K.2) (x : ExtH Z T H m H1 m1) (ok : Ok K0 T H m S) : ∀ {vs : List V} {ds : List D}, Reps K H m vs ds → Reps K H1 m1 vs ds
  | _, _, .nil => .nil
  | _, _, .cons r t => .cons (Rep.monoH hz x ok r) (Reps.monoH hz x ok t)
end
/-- a new object that is no cell -/
theorem Ext.laid (ok : Ok K T H m S) {p : Addr} {o : HO} (h : H p = none) : Ext T H m (upd H p o) m :=
  ⟨⟨[], by simp⟩, fun a u e _ _ => by rw [upd_ne (ne_of_none e h)]; exact e, fun _ z n _ => absurd z n⟩
theorem Ok.laid (ok : Ok K T H m S) {p : Addr} {o : HO} (h : H p = none) (ho : TupOk o := by first | exact trivial | assumption | rfl) : Ok K T (upd H p o) m S where
  tp := ok.tp.upd ho
  nd := ok.nd
  len := ok.len
  lst := fun n a ds e1 e2 => by
    obtain ⟨xs, q, r⟩ := ok.lst n a ds e1 e2
    exact ⟨xs, by rw [upd_ne (ne_of_none q h)]; exact q, r.mono (Ext.laid ok h) ok⟩
  dic := fun n a ks ds e1 e2 => by
    obtain ⟨xs, q, e, r⟩ := ok.dic n a ks ds e1 e2
    exact ⟨xs, by rw [upd_ne (ne_of_none q h)]; exact q, e, r.mono (Ext.laid ok h) ok⟩
  tab := fun P hP => by
    obtain ⟨ps, q, r⟩ := ok.tab P hP
    exact ⟨ps, by rw [upd_ne (ne_of_none q h)]; exact q, r⟩
  hid := fun a ha => ⟨(ok.hid a ha).1, by rw [upd_ne (fun (z : a = p) => (ok.hid a ha).2 (by rw [z]; exact h))]; exact (ok.hid a ha).2⟩
/-- a new cell: a list -/
theorem Ext.cell (ok : Ok K T H m S) {p : Addr} {o : HO} (h : H p = none) : Ext T H m (upd H p o) (m ++ [p]) :=
  ⟨⟨[p], rfl⟩, fun a u e _ _ => by rw [upd_ne (ne_of_none e h)]; exact e, fun a z n _ => by
    rcases List.mem_append.mp z with z | z
    · exact absurd z n
    · rw [List.mem_singleton.mp z]; exact h⟩
theorem Ok.newLst (ok : Ok K T H m S) {p : Addr} {xs : List V} {ds : List D} (h : H p = none) (r : Reps K H m xs ds) : Ok K T (upd H p (.lst xs)) (m ++ [p]) (S ++ [Cell.lst ds]) := by
  have E := Ext.cell (o := .lst xs) ok h
  have hp := (ok.free h).1
  refine ⟨?_, by simp [ok.len], fun n a es e1 e2 => ?_, fun n a ks es e1 e2 => ?_, fun P hP => ?_, fun a ha => ⟨fun z => ?_, ?_⟩, ok.tp.upd trivial⟩
  · rw [List.nodup_append]
    exact ⟨ok.nd, by simp, fun a ha b hb => by rw [List.mem_singleton.mp hb]; intro z; exact hp (z ▸ ha)⟩
  · by_cases hn : n < m.length
    · rw [List.getElem?_append_left hn] at e1
      rw [List.getElem?_append_left (by rw [← ok.len]; exact hn)] at e2
      obtain ⟨ys, q, s⟩ := ok.lst n a es e1 e2
      exact ⟨ys, by rw [upd_ne (ne_of_none q h)]; exact q, s.mono E ok⟩
    · have hn1 := (List.getElem?_eq_some_iff.mp e1).1
      have hn' : n = m.length := by simp at hn1; omega
      subst hn'
      rw [List.getElem?_append_right (Nat.le_refl _)] at e1
      rw [List.getElem?_append_right (by rw [ok.len]; exact Nat.le_refl _), ok.len] at e2
      simp at e1 e2
      subst e1
      cases e2
      exact ⟨xs, upd_same, r.mono E ok⟩
  · have hn : n < m.length := by
      have hn1 := (List.getElem?_eq_some_iff.mp e1).1
      rw [List.length_append] at hn1
      by_cases hh : n < m.length
      · exact hh
      · have : n = m.length := by simp at hn1; omega
        subst this
        rw [List.getElem?_append_right (by rw [ok.len]; exact Nat.le_refl _), ok.len] at e2
        simp at e2
    rw [List.getElem?_append_left hn] at e1
    rw [List.getElem?_append_left (by rw [← ok.len]; exact hn)] at e2
    obtain ⟨ys, q, e, s⟩ := ok.dic n a ks es e1 e2
    exact ⟨ys, by rw [upd_ne (ne_of_none q h)]; exact q, e, s.mono E ok⟩
  · obtain ⟨ps, q, t⟩ := ok.tab P hP
    exact ⟨ps, by rw [upd_ne (ne_of_none q h)]; exact q, t⟩
  · rcases List.mem_append.mp z with z | z
    · exact (ok.hid a ha).1 z
    · rw [List.mem_singleton.mp z] at ha; exact (ok.free h).2.2 ha
  · rw [upd_ne (fun (z : a = p) => (ok.hid a ha).2 (by rw [z]; exact h))]; exact (ok.hid a ha).2
/-- a cell is written: a list -/
theorem Ext.put (ok : Ok K T H m S) {n : Nat} {a : Addr} {o : HO} (h : m[n]? = some a) : Ext T H m (upd H a o) m :=
  ⟨⟨[], by simp⟩, fun b u e nb _ => by rw [upd_ne (fun (z : b = a) => nb (by rw [z]; exact List.mem_of_getElem? h))]; exact e, fun _ z nn _ => absurd z nn⟩
theorem idx_inj {α : Type} {l : List α} (nd : l.Nodup) {i j : Nat} {x : α} (a : l[i]? = some x) (b : l[j]? = some x) : i = j := by
  obtain ⟨h1, e1⟩ := List.getElem?_eq_some_iff.mp a
  obtain ⟨h2, e2⟩ := List.getElem?_eq_some_iff.mp b
  exact (List.getElem_inj nd).mp (e1.trans e2.symm)
theorem Ok.putLst (ok : Ok K T H m S) {n : Nat} {a : Addr} {xs : List V} {ds : List D} (h : m[n]? = some a) (r : Reps K H m xs ds) : Ok K T (upd H a (.lst xs)) m (S.set n (Cell.lst ds)) := by
  have E := Ext.put (o := .lst xs) ok h
  have hn : n < S.length := by rw [← ok.len]; exact (List.getElem?_eq_some_iff.mp h).1
  refine ⟨ok.nd, by simp [ok.len], fun j b es e1 e2 => ?_, fun j b ks es e1 e2 => ?_, fun P hP => ?_, fun b hb => ⟨(ok.hid b hb).1, by rw [upd_ne (fun (z : b = a) => (ok.hid b hb).1 (by rw [z]; exact List.mem_of_getElem? h))]; exact (ok.hid b hb).2⟩, ok.tp.upd trivial⟩
  · by_cases hj : j = n
    · subst hj
      rw [h] at e1; cases e1
      rw [List.getElem?_set_self hn] at e2; cases e2
      exact ⟨xs, upd_same, r.mono E ok⟩
    · rw [List.getElem?_set_ne (Ne.symm hj)] at e2
      obtain ⟨ys, q, s⟩ := ok.lst j b es e1 e2
      have ne : b ≠ a := fun z => hj (idx_inj ok.nd e1 (z ▸ h))
      exact ⟨ys, by rw [upd_ne ne]; exact q, s.mono E ok⟩
  · by_cases hj : j = n
    · subst hj
      rw [List.getElem?_set_self hn] at e2; cases e2
    · rw [List.getElem?_set_ne (Ne.symm hj)] at e2
      obtain ⟨ys, q, e, s⟩ := ok.dic j b ks es e1 e2
      have ne : b ≠ a := fun z => hj (idx_inj ok.nd e1 (z ▸ h))
      exact ⟨ys, by rw [upd_ne ne]; exact q, e, s.mono E ok⟩
  · obtain ⟨ps, q, t⟩ := ok.tab P hP
    have ne : P ≠ a := fun z => ok.noTab (List.mem_of_getElem? h) (z ▸ hP)
    exact ⟨ps, by rw [upd_ne ne]; exact q, t⟩
theorem Ok.putDic (ok : Ok K T H m S) {n : Nat} {a : Addr} {kvs : List (Key × V)} {ks : List Key} {ds : List D} (h : m[n]? = some a) (ek : kvs.map (·.1) = ks) (r : Reps K H m (kvs.map (·.2)) ds) : Ok K T (upd H a (.dK kvs)) m (S.set n (Cell.dic ks ds)) := by
  have E := Ext.put (o := .dK kvs) ok h
  have hn : n < S.length := by rw [← ok.len]; exact (List.getElem?_eq_some_iff.mp h).1
  refine ⟨ok.nd, by simp [ok.len], fun j b es e1 e2 => ?_, fun j b qs es e1 e2 => ?_, fun P hP => ?_, fun b hb => ⟨(ok.hid b hb).1, by rw [upd_ne (fun (z : b = a) => (ok.hid b hb).1 (by rw [z]; exact List.mem_of_getElem? h))]; exact (ok.hid b hb).2⟩, ok.tp.upd trivial⟩
  · by_cases hj : j = n
    · subst hj
      rw [List.getElem?_set_self hn] at e2; cases e2
    · rw [List.getElem?_set_ne (Ne.symm hj)] at e2
      obtain ⟨ys, q, s⟩ := ok.lst j b es e1 e2
      have ne : b ≠ a := fun z => hj (idx_inj ok.nd e1 (z ▸ h))
      exact ⟨ys, by rw [upd_ne ne]; exact q, s.mono E ok⟩
  · by_cases hj : j = n
    · subst hj
      rw [h] at e1; cases e1
      rw [List.getElem?_set_self hn] at e2; cases e2
      exact ⟨kvs, upd_same, ek, r.mono E ok⟩
    · rw [List.getElem?_set_ne (Ne.symm hj)] at e2
      obtain ⟨ys, q, e, s⟩ := ok.dic j b qs es e1 e2
      have ne : b ≠ a := fun z => hj (idx_inj ok.nd e1 (z ▸ h))
      exact ⟨ys, by rw [upd_ne ne]; exact q, e, s.mono E ok⟩
  · obtain ⟨ps, q, t⟩ := ok.tab P hP
    have ne : P ≠ a := fun z => ok.noTab (List.mem_of_getElem? h) (z ▸ hP)
    exact ⟨ps, by rw [upd_ne ne]; exact q, t⟩
end
mutual
theorem Rep.hide {K : PySem.W.Frag} {Z E : List Addr} {H : Hp} {m : List Addr} (he : ∀ a ∈ E, H a = none) : ∀ {v : V} {d : D}, Rep (K, Z) H m v d → Rep (K, E ++ Z) H m v d
  | _, _, .non => .non
  | _, _, .bl b => .bl b
  | _, _, .int i => .int i
  | _, _, .str z => .str z
  | _, _, .tup h r => .tup h (Reps.hide he r)
  | _, _, .lst h n z r => .lst h n (fun q => (List.mem_append.mp q).elim (fun q => by rw [he _ q] at h; cases h) z) (Reps.hide he r)
  | _, _, .dic h n z e r => .dic h n (fun q => (List.mem_append.mp q).elim (fun q => by
      rcases h with h | ⟨o, h⟩ <;> · rw [he _ q] at h; cases h) z) e (Reps.hide he r)
  | _, _, .loc h => .loc h
  | _, _, .scr h n z r => .scr h n (fun q => (List.mem_append.mp q).elim (fun q => by
      rcases h with h | ⟨o, h⟩ <;> · rw [he _ q] at h; cases h) z) (Reps.hide he r)
  | _, _, .scrK h r => .scrK h (Reps.hide he r)
theorem Reps.hide {K : PySem.W.Frag} {Z E : List Addr} {H : Hp} {m : List Addr} (he : ∀ a ∈ E, H a = none) : ∀ {vs : List V} {ds : List D}, Reps (K, Z) H m vs ds → Reps (K, E ++ Z) H m vs ds
  | _, _, .nil => .nil
  | _, _, .cons r t => .cons (Rep.hide he r) (Reps.hide he t)
end
mutual
theorem Rep.bare {K : PySem.W.Frag} {Z E : List Addr} {H : Hp} {m : List Addr} : ∀ {v : V} {d : D}, Rep (K, E ++ Z) H m v d → Rep (K, Z) H m v d
  | _, _, .non => .non
  | _, _, .bl b => .bl b
  | _, _, .int i => .int i
  | _, _, .str z => .str z
  | _, _, .tup h r => .tup h (Reps.bare r)
  | _, _, .lst h n z r => .lst h n (fun q => z (List.mem_append_right _ q)) (Reps.bare r)
  | _, _, .dic h n z e r => .dic h n (fun q => z (List.mem_append_right _ q)) e (Reps.bare r)
  | _, _, .loc h => .loc h
  | _, _, .scr h n z r => .scr h n (fun q => z (List.mem_append_right _ q)) (Reps.bare r)
  | _, _, .scrK h r => .scrK h (Reps.bare r)
theorem Reps.bare {K : PySem.W.Frag} {Z E : List Addr} {H : Hp} {m : List Addr} : ∀ {vs : List V} {ds : List D}, Reps (K, E ++ Z) H m vs ds → Reps (K, Z) H m vs ds
  | _, _, .nil => .nil
  | _, _, .cons r t => .cons (Rep.bare r) (Reps.bare t)
end
theorem Ok.bare {K : PySem.W.Frag} {Z E : List Addr} {T : List Addr} {H : Hp} {m : List Addr} {S : Sto} (ok : Ok (K, E ++ Z) T H m S) : Ok (K, Z) T H m S where
  nd := ok.nd
  len := ok.len
  lst := fun n a ds e1 e2 => let ⟨xs, q, r⟩ := ok.lst n a ds e1 e2; ⟨xs, q, r.bare⟩
  dic := fun n a ks ds e1 e2 => let ⟨xs, q, e, r⟩ := ok.dic n a ks ds e1 e2; ⟨xs, q, e, r.bare⟩
  tab := ok.tab
  hid := fun a ha => ok.hid a (List.mem_append_right _ ha)
  tp := ok.tp
/-- a new object is put aside: nobody knows it -/
theorem Ok.aside {K : PySem.W.Frag} {Z : List Addr} {T : List Addr} {H : Hp} {m : List Addr} {S : Sto} {p : Addr} {o : HO} (ok : Ok (K, Z) T H m S) (h : H p = none) (ho : TupOk o := by first | exact trivial | assumption | rfl) : Ok (K, [p] ++ Z) T (upd H p o) m S := by
  have o1 := ok.laid (o := o) h ho
  have x := Ext.laid (o := o) ok h
  have he : ∀ a ∈ [p], H a = none := fun a ha => by rw [List.mem_singleton.mp ha]; exact h
  have up : ∀ {vs : List V} {ds : List D}, Reps (K, Z) H m vs ds → Reps (K, [p] ++ Z) (upd H p o) m vs ds := fun {vs ds} r => by
    -- hidden before it was there, then kept
    have r1 := Reps.hide he r
    exact Reps.keep (fun a u e => by rw [upd_ne (ne_of_none e h)]; exact e) r1
  refine ⟨ok.nd, ok.len, fun n a ds e1 e2 => ?_, fun n a ks ds e1 e2 => ?_, o1.tab, fun a ha => ?_, o1.tp⟩
  · obtain ⟨xs, q, r⟩ := ok.lst n a ds e1 e2
    exact ⟨xs, by rw [upd_ne (ne_of_none q h)]; exact q, up r⟩
  · obtain ⟨xs, q, e, r⟩ := ok.dic n a ks ds e1 e2
    exact ⟨xs, by rw [upd_ne (ne_of_none q h)]; exact q, e, up r⟩
  · rcases List.mem_append.mp ha with z | z
    · rw [List.mem_singleton.mp z]
      exact ⟨(ok.free h).1, by rw [upd_same]; intro q; cases q⟩
    · exact o1.hid a z
/-- the names' values -/
structure EnvOk (K : PySem.W.Frag × List Addr) (H : Hp) (m : List Addr) (σ : L2.St) (G : Gam) : Prop where
  len : σ.length = G.length
  at_ : ∀ (i : Nat) (d : D), G[i]? = some (some d) → ∃ v, σ[i]? = some (some v) ∧ Rep K H m v d
section
variable {K : PySem.W.Frag × List Addr} {T : List Addr} {H H1 : Hp} {m m1 : List Addr} {S : Sto} {σ : L2.St} {G : Gam}
theorem EnvOk.mono (e : EnvOk K H m σ G) (x : Ext T H m H1 m1) (ok : Ok K T H m S) : EnvOk K H1 m1 σ G :=
  ⟨e.len, fun i d h => let ⟨v, a, r⟩ := e.at_ i d h; ⟨v, a, r.mono x ok⟩⟩
theorem EnvOk.set (e : EnvOk K H m σ G) {i : Nat} {v : V} {d : D} (r : Rep K H m v d) : EnvOk K H m (σ.set i (some v)) (G.set i (some d)) := by
  refine ⟨by simp [e.len], fun j c h => ?_⟩
  by_cases hj : i = j
  · subst hj
    by_cases hi : i < G.length
    · rw [List.getElem?_set_self hi] at h
      cases h
      exact ⟨v, by rw [List.getElem?_set_self (by rw [e.len]; exact hi)], r⟩
    · rw [List.getElem?_eq_none (by simpa using hi)] at h; cases h
  · rw [List.getElem?_set_ne hj] at h
    obtain ⟨w, a, q⟩ := e.at_ j c h
    exact ⟨w, by rw [List.getElem?_set_ne hj]; exact a, q⟩
end
theorem EnvOk.aside {K : PySem.W.Frag} {Z : List Addr} {H : Hp} {m : List Addr} {σ : L2.St} {G : Gam} {p : Addr} {o : HO} (e : EnvOk (K, Z) H m σ G) (h : H p = none) : EnvOk (K, [p] ++ Z) (upd H p o) m σ G :=
  ⟨e.len, fun i d q => let ⟨v, a, r⟩ := e.at_ i d q; ⟨v, a, Rep.keep (fun a u e => by rw [upd_ne (ne_of_none e h)]; exact e) (Rep.hide (fun a ha => by rw [List.mem_singleton.mp ha]; exact h) r)⟩⟩
theorem EnvOk.bare {K : PySem.W.Frag} {Z E : List Addr} {H : Hp} {m : List Addr} {σ : L2.St} {G : Gam} (e : EnvOk (K, E ++ Z) H m σ G) : EnvOk (K, Z) H m σ G :=
  ⟨e.len, fun i d q => let ⟨v, a, r⟩ := e.at_ i d q; ⟨v, a, r.bare⟩⟩
mutual
/-- what is put aside may change: nobody knows it -/
theorem Rep.grow {K : PySem.W.Frag} {Z : List Addr} {H : Hp} {m : List Addr} {p : Addr} {xs ys : List V} (h : H p = some (.lst xs)) : ∀ {v : V} {d : D}, Rep (K, [p] ++ Z) H m v d → Rep (K, [p] ++ Z) (upd H p (.lst ys)) m v d
  | _, _, .non => .non
  | _, _, .bl b => .bl b
  | _, _, .int i => .int i
  | _, _, .str z => .str z
  | _, _, .tup q r => .tup (by
      rcases q with (q | ⟨o, q⟩) | q
      · refine .inl (.inl ?_)
        rw [upd_ne (ne_of q h (by intro z; cases z))]; exact q
      · refine .inl (.inr ⟨o, ?_⟩)
        rw [upd_ne (ne_of q h (by intro z; cases z))]; exact q
      · exact .inr q) (Reps.grow h r)
  | _, _, .lst q n z r => .lst (by
      rw [upd_ne (fun e => z (List.mem_append_left _ (List.mem_singleton.mpr e)))]; exact q) n z (Reps.grow h r)
  | _, _, .dic q n z e r => .dic (by
      rcases q with q | ⟨o, q⟩
      · refine .inl ?_
        rw [upd_ne (ne_of q h (by intro z; cases z))]; exact q
      · refine .inr ⟨o, ?_⟩
        rw [upd_ne (ne_of q h (by intro z; cases z))]; exact q) n z e (Reps.grow h r)
  | _, _, .loc q => .loc q
  | _, _, .scr q n z r => .scr (by
      have ne := fun e => z (List.mem_append_left _ (List.mem_singleton.mpr e))
      rcases q with q | ⟨o, q⟩
      · exact .inl (by rw [upd_ne ne]; exact q)
      · exact .inr ⟨o, by rw [upd_ne ne]; exact q⟩) n z (Reps.grow h r)
  | _, _, .scrK q r => .scrK q (Reps.grow h r)
theorem Reps.grow {K : PySem.W.Frag} {Z : List Addr} {H : Hp} {m : List Addr} {p : Addr} {xs ys : List V} (h : H p = some (.lst xs)) : ∀ {vs : List V} {ds : List D}, Reps (K, [p] ++ Z) H m vs ds → Reps (K, [p] ++ Z) (upd H p (.lst ys)) m vs ds
  | _, _, .nil => .nil
  | _, _, .cons r t => .cons (Rep.grow h r) (Reps.grow h t)
end
theorem Ok.grow {K : PySem.W.Frag} {Z : List Addr} {T : List Addr} {H : Hp} {m : List Addr} {S : Sto} {p : Addr} {xs ys : List V} (ok : Ok (K, [p] ++ Z) T H m S) (np : p ∉ m) (h : H p = some (.lst xs)) : Ok (K, [p] ++ Z) T (upd H p (.lst ys)) m S where
  tp := ok.tp.upd trivial
  nd := ok.nd
  len := ok.len
  lst := fun n a ds e1 e2 => by
    obtain ⟨us, q, r⟩ := ok.lst n a ds e1 e2
    have ne : a ≠ p := fun z => np (by rw [← z]; exact List.mem_of_getElem? e1)
    exact ⟨us, by rw [upd_ne ne]; exact q, r.grow h⟩
  dic := fun n a ks ds e1 e2 => by
    obtain ⟨us, q, e, r⟩ := ok.dic n a ks ds e1 e2
    have ne : a ≠ p := fun z => np (by rw [← z]; exact List.mem_of_getElem? e1)
    exact ⟨us, by rw [upd_ne ne]; exact q, e, r.grow h⟩
  tab := fun P hP => by
    obtain ⟨ps, q, r⟩ := ok.tab P hP
    exact ⟨ps, by rw [upd_ne (ne_of q h (by intro z; cases z))]; exact q, r⟩
  hid := fun a ha => ⟨(ok.hid a ha).1, by
    by_cases e : a = p
    · rw [e, upd_same]; intro z; cases z
    · rw [upd_ne e]; exact (ok.hid a ha).2⟩
theorem EnvOk.grow {K : PySem.W.Frag} {Z : List Addr} {H : Hp} {m : List Addr} {σ : L2.St} {G : Gam} {p : Addr} {xs ys : List V} (e : EnvOk (K, [p] ++ Z) H m σ G) (np : p ∉ m) (h : H p = some (.lst xs)) : EnvOk (K, [p] ++ Z) (upd H p (.lst ys)) m σ G :=
  ⟨e.len, fun i d q => let ⟨v, a, r⟩ := e.at_ i d q; ⟨v, a, r.grow h⟩⟩
mutual
theorem Rep.nowCell {K : PySem.W.Frag} {Z : List Addr} {H : Hp} {m : List Addr} {p : Addr} : ∀ {v : V} {d : D}, Rep (K, [p] ++ Z) H m v d → Rep (K, Z) H (m ++ [p]) v d
  | _, _, .non => .non
  | _, _, .bl b => .bl b
  | _, _, .int i => .int i
  | _, _, .str z => .str z
  | _, _, .tup q r => .tup q (Reps.nowCell r)
  | _, _, .lst q n z r => .lst q (fun e => (List.mem_append.mp e).elim n fun e => z (List.mem_append_left _ e)) (fun e => z (List.mem_append_right _ e)) (Reps.nowCell r)
  | _, _, .dic q n z e r => .dic q (fun e => (List.mem_append.mp e).elim n fun e => z (List.mem_append_left _ e)) (fun e => z (List.mem_append_right _ e)) e (Reps.nowCell r)
  | _, _, .loc q => .loc (by rw [List.getElem?_append_left (List.getElem?_eq_some_iff.mp q).1]; exact q)
  | _, _, .scr q n z r => .scr q (fun e => (List.mem_append.mp e).elim n fun e => z (List.mem_append_left _ e)) (fun e => z (List.mem_append_right _ e)) (Reps.nowCell r)
  | _, _, .scrK q r => .scrK q (Reps.nowCell r)
theorem Reps.nowCell {K : PySem.W.Frag} {Z : List Addr} {H : Hp} {m : List Addr} {p : Addr} : ∀ {vs : List V} {ds : List D}, Reps (K, [p] ++ Z) H m vs ds → Reps (K, Z) H (m ++ [p]) vs ds
  | _, _, .nil => .nil
  | _, _, .cons r t => .cons (Rep.nowCell r) (Reps.nowCell t)
end
/-- what was put aside becomes a cell -/
theorem Ok.nowCell {K : PySem.W.Frag} {Z : List Addr} {T : List Addr} {H : Hp} {m : List Addr} {S : Sto} {p : Addr} {xs : List V} {ds : List D} (ok : Ok (K, [p] ++ Z) T H m S) (h : H p = some (.lst xs)) (r : Reps (K, [p] ++ Z) H m xs ds) (np : p ∉ m)
    (nz : p ∉ Z := by first | assumption | simp_all) : Ok (K, Z) T H (m ++ [p]) (S ++ [Cell.lst ds]) := by
  have up : ∀ {vs : List V} {es : List D}, Reps (K, [p] ++ Z) H m vs es → Reps (K, Z) H (m ++ [p]) vs es := fun r => Reps.nowCell r
  refine ⟨?_, by simp [ok.len], fun n a es e1 e2 => ?_, fun n a ks es e1 e2 => ?_, ok.tab, fun a ha => ⟨fun z => ?_, (ok.hid a (List.mem_append_right _ ha)).2⟩, ok.tp⟩
  · rw [List.nodup_append]
    exact ⟨ok.nd, by simp, fun a ha b hb => by rw [List.mem_singleton.mp hb]; intro z; exact np (z ▸ ha)⟩
  · by_cases hn : n < m.length
    · rw [List.getElem?_append_left hn] at e1
      rw [List.getElem?_append_left (by rw [← ok.len]; exact hn)] at e2
      obtain ⟨ys, q, s⟩ := ok.lst n a es e1 e2
      exact ⟨ys, q, up s⟩
    · have hn1 := (List.getElem?_eq_some_iff.mp e1).1
      have hn' : n = m.length := by simp at hn1; omega
      subst hn'
      rw [List.getElem?_append_right (Nat.le_refl _)] at e1
      rw [List.getElem?_append_right (by rw [ok.len]; exact Nat.le_refl _), ok.len] at e2
      simp at e1 e2
      subst e1
      cases e2
      exact ⟨xs, h, up r⟩
  · have hn : n < m.length := by
      have hn1 := (List.getElem?_eq_some_iff.mp e1).1
      rw [List.length_append] at hn1
      by_cases hh : n < m.length
      · exact hh
      · have : n = m.length := by simp at hn1; omega
        subst this
        rw [List.getElem?_append_right (by rw [ok.len]; exact Nat.le_refl _), ok.len] at e2
        simp at e2
    rw [List.getElem?_append_left hn] at e1
    rw [List.getElem?_append_left (by rw [← ok.len]; exact hn)] at e2
    obtain ⟨ys, q, e, s⟩ := ok.dic n a ks es e1 e2
    exact ⟨ys, q, e, up s⟩
  · rcases List.mem_append.mp z with z | z
    · exact (ok.hid a (List.mem_append_right _ ha)).1 z
    · rw [List.mem_singleton.mp z] at ha; exact nz ha
end Vw
set_option maxRecDepth 100000
set_option maxHeartbeats 4000000
namespace Vw
open PySem PySem.Spec PyProof.Rows L2
abbrev MadeT (Q : VK) (xs : List V) (H : Hp) : Prop := ∀ p ob, H p = none → ob.dict = none → Q (.ref p) (upd H p (.frz ob (.tup xs)))
abbrev tupObj (us : List Value) : Obj := { cls := .type "tuple", data := .seq us.toArray }
section
variable {X : Cx} {pins : List (Addr × Obj)} {σ : L2.St} {H : Hp} {s : Shared} {Q : VK} {xs : List V} {us : List Value} {es : List Expr} {t : TA} {kk : Nat} {pos : Pos}
theorem made (I : Inv X pins σ H s) (r : Vals xs us) (hz : xs.length ≤ sizeLine) (q : MadeT Q xs H) : EP X pins σ Q (.ref s.heap.objs.size) { s with heap := s.heap.push (tupObj us) } :=
  ⟨.ref s.heap.objs.size, upd H s.heap.objs.size (.frz (tupObj us) (.tup xs)), I.laid (t' := s.toks) (fun _ _ z => Heap.get?_push_of_some _ z) (Nat.le_refl _) ⟨Heap.get?_push_size _ rfl, hz, us, r, IsTup.new _ _⟩, rfl, q _ _ (I.hok.fresh (Nat.le_refl _)) rfl⟩
def tMadeT (t : TA) : TE := fun σ H Q => t σ H fun xs H1 => xs.length ≤ sizeLine ∧ MadeT Q xs H1
theorem pe_madeT (h : PA X es t) : PE X (.Tuple es kk pos) (tMadeT t) :=
  ⟨fun pins s σ H Q I hq => wpAny_Tuple_spliced (thn (h.run pos pins s σ H _ I hq) fun us s1 ⟨xs, H1, I1, r, z, q⟩ => ⟨Nat.le_trans (Nat.le_of_eq r.length.symm) z, made I1 r z q⟩)⟩
/-- t[lo:hi], the whole of it or a part -/
def rSlM (K : PySem.W.Frag) : V → Option Int → Option Int → Hp → VK → Prop := fun x lo hi H Q => ∃ a xs, x = .ref a ∧ SqT K H a xs ∧ ((HT.sIx xs.length 0 lo = 0 ∧ HT.sIx xs.length xs.length hi = xs.length) → Q (.ref a) H) ∧ (¬ (HT.sIx xs.length 0 lo = 0 ∧ HT.sIx xs.length xs.length hi = xs.length) → MadeT Q (cutV xs lo hi) H)
theorem sl_madeT : SlR X (rSlM X.K) := by
  rintro pins s σ H _ v vl vu lo hi sl Q I rx hs pl pu ⟨a, xs, rfl, hx, q1, q2⟩
  cases rx
  obtain ⟨its, r, ht, hz⟩ := I.tuple hx
  have hn : its.toArray.size = xs.length := by rw [List.size_toArray, r.length]
  by_cases hw : HT.sIx xs.length 0 lo = 0 ∧ HT.sIx xs.length xs.length hi = xs.length
  · exact ⟨"tuple", _, PyProof.Rows.slot_tuple_getitem.lookup, ht.typeIs, getItem_tuple_whole ht hs pl pu (by rw [hn]; exact hw) ⟨.ref a, H, I, rfl, q1 hw⟩⟩
  · exact ⟨"tuple", _, PyProof.Rows.slot_tuple_getitem.lookup, ht.typeIs, HT.getItem_tuple_cut ht hs pl pu (by rw [hn]; exact hw) (by rw [hn]; exact made I ((r.drop _).take _) (Nat.le_trans (cutV_length xs lo hi) hz) (q2 hw)) (by rw [hn]; exact hz)⟩
/-- t + u -/
def rCatM (K : PySem.W.Frag) : R2 := fun x y H Q => ∃ a b xs ys, x = .ref a ∧ y = .ref b ∧ SqT K H a xs ∧ SqT K H b ys ∧ xs.length + ys.length ≤ sizeLine ∧ (xs = [] → Q (.ref b) H) ∧ (xs ≠ [] → ys = [] → Q (.ref a) H) ∧ (xs ≠ [] → ys ≠ [] → MadeT Q (xs ++ ys) H)
theorem op_catM : OpR X (binaryOp .Add) (rCatM X.K) := by
  rintro pins s σ H _ _ v u Q I rx ry ⟨a, b, xs, ys, rfl, rfl, ha, hb, hz, q0, q1, q2⟩
  cases rx; cases ry
  obtain ⟨us, r1, p1, _⟩ := I.tuple ha
  obtain ⟨vs, r2, p2, _⟩ := I.tuple hb
  by_cases hx : xs = []
  · cases hx; cases r1; exact L2.cat_tup0 p1 p2 ⟨.ref b, H, I, rfl, q0 rfl⟩
  · exact HT.cat_tup p1 p2 (fun z => hx (r1.nil_iff.mp z)) (fun z => ⟨.ref a, H, I, rfl, q1 hx (r2.nil_iff.mp z)⟩) (fun z => made I (r1.append r2) (by rw [List.length_append]; exact hz) (q2 hx fun w => z (r2.nil_iff.mpr w))) (by rw [← r1.length, ← r2.length]; exact hz)
/-- t * k, more than once -/
def rRepM (K : PySem.W.Frag) : R2 := fun x y H Q => ∃ l k xs, x = .ref l ∧ y = .int k ∧ SqT K H l xs ∧ xs ≠ [] ∧ 2 ≤ k ∧ k ≤ 1000 ∧ xs.length ≤ 1000 ∧ MadeT Q (List.replicate k.toNat xs).flatten H
theorem op_repM : OpR X (binaryOp .Mult) (rRepM X.K) := by
  rintro pins s σ H _ _ v u Q I rx ry ⟨l, k, xs, rfl, rfl, hT, hne, h1, h2, hz, q⟩
  cases rx
  obtain ⟨tk, rfl⟩ := ry
  obtain ⟨us, r, ⟨⟨oc, od, dt, os⟩, hl, hcl, n, hdt⟩, hsz⟩ := I.tuple hT
  cases (show oc = _ from hcl)
  cases (show dt = _ from hdt)
  have hlen : us.length = xs.length := r.length.symm
  have hnn : us ≠ [] := fun z => hne (by rw [z] at hlen; exact List.eq_nil_of_length_eq_zero hlen.symm)
  have hem : us.toArray.isEmpty = false := by
    cases us with
    | nil => exact absurd rfl hnn
    | cons _ _ => rfl
  have has : us.toArray.size = xs.length := by rw [List.size_toArray, hlen]
  have hmul : ((us.toArray.size : Nat) : Int) * k ≤ 1000000 := by
    have z : ((xs.length : Nat) : Int) * k ≤ 1000 * k := Int.mul_le_mul_of_nonneg_right (by omega) (by omega)
    rw [has]; omega
  have z1 : k.toNat * xs.length ≤ 1000 * 1000 := Nat.mul_le_mul (by omega) hz
  have hfl : (List.replicate k.toNat us).flatten.length ≤ sizeLine := by rw [PyProof.Rows.lm_len_rep_flat, hlen, sizeLine_eq]; omega
  have hfx : (List.replicate k.toNat xs).flatten.length ≤ sizeLine := by rw [PyProof.Rows.lm_len_rep_flat, sizeLine_eq]; omega
  have g0 : (decide (k < -(2 ^ 63)) || decide (k ≥ 2 ^ 63)) = false := by simp only [Bool.or_eq_false_iff, decide_eq_false_iff_not]; exact ⟨by omega, by omega⟩
  have g1 : (us.toArray.isEmpty || k == 1) = false := by rw [hem]; exact beq_eq_false_iff_ne.mpr (by omega)
  have g2 : (decide (k ≤ 0) || us.toArray.isEmpty) = false := by rw [hem]; simp only [Bool.or_false, decide_eq_false_iff_not]; omega
  have g4 : Builtin.Tuple.tupleTooMany (((us.toArray.size : Nat) : Int) * k) = false := by unfold Builtin.Tuple.tupleTooMany; rw [sizeLine_eq]; simp only [decide_eq_false_iff_not]; omega
  refine wpAny_binaryOp_repeat_ref (T := "tuple") (U := "int") (by decide) ⟨_, hl, rfl⟩ (fun s' => typeIs_int s' k tk) noFill_tuple_mul F.fills_int_mul F.slot_int_rmul repeat_tuple F.slot_int_index.lookup (call_meets F.slot_int_rmul (typeIs_int s k tk) F.entry_int_rmul (F.args_int_rmul_2 _ _) (int_rmul_tuple k tk l us.toArray n od os) ⟨hl, rfl, ⟨_, hl, rfl⟩, call_meets F.slot_tuple_mul ⟨_, hl, rfl⟩ F.entry_tuple_mul (F.args_tuple_mul_2 _ _) (tuple_mulW l us.toArray n od os k tk g0 g1 g2 (by omega) g4 (by rw [size_rep, List.size_toArray]; exact hfl)) ⟨hl, ?_⟩⟩)
  rw [size_rep]
  exact made I (r.rep k.toNat) hfx q
/-- tuple(xs) -/
theorem call_madeT : CallR X (.type "tuple") (fun xs H Q => ∃ p ys, xs = [.ref p] ∧ ((SqL X.K H p ys ∧ MadeT Q ys H) ∨ (SqT X.K H p ys ∧ Q (.ref p) H))) := by
  rintro pins s σ H _ us Q I r ⟨p, ys, rfl, h⟩
  obtain ⟨u, rfl, rx⟩ := vals1 r
  cases rx
  rcases h with ⟨hq, q⟩ | ⟨hq, q⟩
  · obtain ⟨its, r', pl, hz⟩ := I.list hq
    exact call_tuple_list pl.isList (fun h' kp => made (s := { s with heap := h' }) (I.kept (t' := s.toks) kp) r' hz q) (by have := r'.length; simp only [List.size_toArray]; omega)
  · obtain ⟨its, r', pl, hz⟩ := I.tuple hq
    exact call_tuple_same pl ⟨.ref p, H, I, rfl, q⟩
end
end Vw
set_option maxRecDepth 100000
set_option maxHeartbeats 4000000
namespace Vw
open PySem PySem.Spec L2
abbrev DE := Gam → Sto → Option (D × Sto)
abbrev DT := Gam → Sto → Option (Bool × Sto)
abbrev DA := Gam → Sto → Option (List D × Sto)
theorem peImp {X : Cx} {e : Expr} {t t' : TE} (h : PE X e t) (w : ∀ σ H Q, t' σ H Q → t σ H Q) : PE X e t' :=
  ⟨fun pins s σ H Q I q => h.run pins s σ H Q I (w σ H Q q)⟩
theorem ptImp {X : Cx} {e : Expr} {t t' : TT} (h : PT X e t) (w : ∀ σ H Q, t' σ H Q → t σ H Q) : PT X e t' :=
  ⟨fun pins s σ H Q I q => h.run pins s σ H Q I (w σ H Q q)⟩
theorem paImp {X : Cx} {e : List Expr} {t t' : TA} (h : PA X e t) (w : ∀ σ H Q, t' σ H Q → t σ H Q) : PA X e t' :=
  ⟨fun pos pins s σ H Q I q => h.run pos pins s σ H Q I (w σ H Q q)⟩
def tD (K : PySem.W.Frag) (T : List Addr) (f : DE) : TE := fun σ H Q => ∃ (Z : List Addr) (G : Gam) (S : Sto) (m : List Addr) (d : D) (S' : Sto), Ok (K, Z) T H m S ∧ EnvOk (K, Z) H m σ G ∧ f G S = some (d, S') ∧
  ∀ v H' m', Ext T H m H' m' → Ok (K, Z) T H' m' S' → Rep (K, Z) H' m' v d → Q v H'
def tB (K : PySem.W.Frag) (T : List Addr) (f : DT) : TT := fun σ H Q => ∃ (Z : List Addr) (G : Gam) (S : Sto) (m : List Addr) (b : Bool) (S' : Sto), Ok (K, Z) T H m S ∧ EnvOk (K, Z) H m σ G ∧ f G S = some (b, S') ∧
  ∀ H' m', Ext T H m H' m' → Ok (K, Z) T H' m' S' → Q b H'
def tA (K : PySem.W.Frag) (T : List Addr) (f : DA) : TA := fun σ H Q => ∃ (Z : List Addr) (G : Gam) (S : Sto) (m : List Addr) (ds : List D) (S' : Sto), Ok (K, Z) T H m S ∧ EnvOk (K, Z) H m σ G ∧ f G S = some (ds, S') ∧
  ∀ vs H' m', Ext T H m H' m' → Ok (K, Z) T H' m' S' → Reps (K, Z) H' m' vs ds → Q vs H'
section
variable {K : PySem.W.Frag} {Z : List Addr} {T : List Addr} {H : Hp} {m : List Addr} {S S1 : Sto} {σ : L2.St} {G : Gam}
theorem tD.go {f : DE} {d : D} {R : VK} (ok : Ok (K, Z) T H m S) (en : EnvOk (K, Z) H m σ G) (e : f G S = some (d, S1))
    (h : ∀ v H1 m1, Ext T H m H1 m1 → Ok (K, Z) T H1 m1 S1 → EnvOk (K, Z) H1 m1 σ G → Rep (K, Z) H1 m1 v d → R v H1) : tD K T f σ H R :=
  ⟨Z, G, S, m, d, S1, ok, en, e, fun v H1 m1 x o r => h v H1 m1 x o (en.mono x ok) r⟩
theorem tB.go {f : DT} {b : Bool} {R : Bool → Hp → Prop} (ok : Ok (K, Z) T H m S) (en : EnvOk (K, Z) H m σ G) (e : f G S = some (b, S1))
    (h : ∀ H1 m1, Ext T H m H1 m1 → Ok (K, Z) T H1 m1 S1 → EnvOk (K, Z) H1 m1 σ G → R b H1) : tB K T f σ H R :=
  ⟨Z, G, S, m, b, S1, ok, en, e, fun H1 m1 x o => h H1 m1 x o (en.mono x ok)⟩
theorem tA.go {f : DA} {ds : List D} {R : List V → Hp → Prop} (ok : Ok (K, Z) T H m S) (en : EnvOk (K, Z) H m σ G) (e : f G S = some (ds, S1))
    (h : ∀ vs H1 m1, Ext T H m H1 m1 → Ok (K, Z) T H1 m1 S1 → EnvOk (K, Z) H1 m1 σ G → Reps (K, Z) H1 m1 vs ds → R vs H1) : tA K T f σ H R :=
  ⟨Z, G, S, m, ds, S1, ok, en, e, fun v H1 m1 x o r => h v H1 m1 x o (en.mono x ok) r⟩
end
section
variable {X : Cx} {T : List Addr} {e a b : Expr} {es : List Expr}
def dVar (i : Nat) : DE := fun G S => match G[i]? with | some (some d) => some (d, S) | _ => none
theorem rVar {i : Nat} (h : PE X e (tVar i)) : PE X e (tD X.K T (dVar i)) := by
  refine peImp h fun σ H Q ⟨Z, G, S, m, d, S', ok, en, f, q⟩ => ?_
  unfold dVar at f
  split at f
  · rename_i d' eg
    cases f
    obtain ⟨v, ev, r⟩ := en.at_ i _ eg
    exact ⟨v, ev, q v H m Ext.refl ok r⟩
  · cases f
def dCon (d : D) : DE := fun _ S => some (d, S)
theorem rCon {v : V} {d : D} (h : PE X e (tC v)) (r : ∀ Z H m S, Ok (X.K, Z) T H m S → Rep (X.K, Z) H m v d) : PE X e (tD X.K T (dCon d)) := by
  refine peImp h fun σ H Q ⟨Z, G, S, m, d', S', ok, en, f, q⟩ => ?_
  cases f
  exact q v H m Ext.refl ok (r Z H m S ok)
def dBin (op : D → D → Sto → Option (D × Sto)) (fa fb : DE) : DE := fun G S =>
  (fa G S).bind fun p => (fb G p.2).bind fun q => op p.1 q.1 q.2
def Rule2 (K : PySem.W.Frag) (T : List Addr) (r : R2) (op : D → D → Sto → Option (D × Sto)) : Prop :=
  ∀ (Z : List Addr) (H : Hp) (m : List Addr) (S : Sto) (x y : V) (c d : D) (z : D) (S' : Sto) (Q : VK), Ok (K, Z) T H m S → Rep (K, Z) H m x c → Rep (K, Z) H m y d → op c d S = some (z, S') →
    (∀ v H' m', Ext T H m H' m' → Ok (K, Z) T H' m' S' → Rep (K, Z) H' m' v z → Q v H') → r x y H Q
theorem opened2 {r : R2} {op : D → D → Sto → Option (D × Sto)} {fa fb : DE} (ro : Rule2 X.K T r op) : ∀ σ H Q, tD X.K T (dBin op fa fb) σ H Q → tOp r (tD X.K T fa) (tD X.K T fb) σ H Q := by
  rintro σ H Q ⟨Z, G, S, m, d, S', ok, en, f, q⟩
  unfold dBin at f
  obtain ⟨⟨x, S1⟩, e1, f⟩ := Option.bind_eq_some_iff.mp f
  obtain ⟨⟨y, S2⟩, e2, f⟩ := Option.bind_eq_some_iff.mp f
  refine tD.go ok en e1 fun v H1 m1 x1 o1 en1 r1 => ?_
  refine tD.go o1 en1 e2 fun u H2 m2 x2 o2 en2 r2 => ?_
  exact ro Z H2 m2 S2 v u x y d S' Q o2 (r1.mono x2 o1) r2 f fun w H3 m3 x3 o3 r3 => q w H3 m3 ((x1.trans x2).trans x3) o3 r3
theorem rBin {r : R2} {op : D → D → Sto → Option (D × Sto)} {fa fb : DE} (h : PE X e (tOp r (tD X.K T fa) (tD X.K T fb))) (ro : Rule2 X.K T r op) : PE X e (tD X.K T (dBin op fa fb)) :=
  peImp h (opened2 ro)
def dUn (op : D → Sto → Option (D × Sto)) (fa : DE) : DE := fun G S => (fa G S).bind fun p => op p.1 p.2
def Rule1 (K : PySem.W.Frag) (T : List Addr) (r : V → Hp → VK → Prop) (op : D → Sto → Option (D × Sto)) : Prop :=
  ∀ (Z : List Addr) (H : Hp) (m : List Addr) (S : Sto) (x : V) (c : D) (z : D) (S' : Sto) (Q : VK), Ok (K, Z) T H m S → Rep (K, Z) H m x c → op c S = some (z, S') →
    (∀ v H' m', Ext T H m H' m' → Ok (K, Z) T H' m' S' → Rep (K, Z) H' m' v z → Q v H') → r x H Q
theorem rUn {r : V → Hp → VK → Prop} {op : D → Sto → Option (D × Sto)} {fa : DE} (h : PE X e (tUn r (tD X.K T fa))) (ro : Rule1 X.K T r op) : PE X e (tD X.K T (dUn op fa)) := by
  refine peImp h fun σ H Q ⟨Z, G, S, m, d, S', ok, en, f, q⟩ => ?_
  unfold dUn at f
  obtain ⟨⟨x, S1⟩, e1, f⟩ := Option.bind_eq_some_iff.mp f
  refine tD.go ok en e1 fun v H1 m1 x1 o1 en1 r1 => ?_
  exact ro Z H1 m1 S1 v x d S' Q o1 r1 f fun w H3 m3 x3 o3 r3 => q w H3 m3 (x1.trans x3) o3 r3
def dNil : DA := fun _ S => some ([], S)
def dCons (fa : DE) (fr : DA) : DA := fun G S => (fa G S).bind fun p => (fr G p.2).bind fun q => some (p.1 :: q.1, q.2)
theorem rNil : PA X [] (tA X.K T dNil) := by
  refine paImp pa_nil fun σ H Q ⟨Z, G, S, m, d, S', ok, en, f, q⟩ => ?_
  cases f
  exact q [] H m Ext.refl ok .nil
theorem rCons {fa : DE} {fr : DA} (h : PE X e (tD X.K T fa)) (hr : PA X es (tA X.K T fr)) (hs : starEach (e :: es) X.env = (false, eval e X.env) :: starEach es X.env) : PA X (e :: es) (tA X.K T (dCons fa fr)) := by
  refine paImp (pa_cons h hr hs) fun σ H Q ⟨Z, G, S, m, d, S', ok, en, f, q⟩ => ?_
  unfold dCons at f
  obtain ⟨⟨x, S1⟩, e1, f⟩ := Option.bind_eq_some_iff.mp f
  obtain ⟨⟨y, S2⟩, e2, f⟩ := Option.bind_eq_some_iff.mp f
  cases f
  refine tD.go ok en e1 fun v H1 m1 x1 o1 en1 r1 => ?_
  refine tA.go o1 en1 e2 fun u H2 m2 x2 o2 en2 r2 => ?_
  exact q _ H2 m2 (x1.trans x2) o2 (.cons (r1.mono x2 o1) r2)
def lim : Nat := 1000000
theorem lim_le {n : Nat} (h : n ≤ lim) : n ≤ sizeLine := Nat.le_trans h (by decide)
theorem lim_lt {n : Nat} (h : n ≤ lim) : n < sizeLine := Nat.lt_of_le_of_lt h (by decide)
def okTup (xs : List D) (S : Sto) : Option (D × Sto) := if xs.length ≤ lim then some (.tup xs, S) else none
/-- a new list: as a value, or a cell -/
def okLst (c : Bool) (xs : List D) (S : Sto) : Option (D × Sto) :=
  if xs.length ≤ lim then (if c then some (.loc S.length, S ++ [Cell.lst xs]) else some (.lst xs, S)) else none
def okDic (c : Bool) (ks : List Key) (xs : List D) (S : Sto) : Option (D × Sto) :=
  if xs.length ≤ lim then (if c then some (.loc S.length, S ++ [Cell.dic ks xs]) else some (.dic ks xs, S)) else none
section
variable {K : PySem.W.Frag × List Addr} {T : List Addr} {H : Hp} {m : List Addr} {S S' : Sto} {p : Addr} {xs : List V} {ds : List D} {d : D} {Q : VK}
theorem newTup {ob : Obj} (ok : Ok K T H m S) (h : H p = none) (hb : ob.dict = none) (r : Reps K H m xs ds) (f : okTup ds S = some (d, S'))
    (q : ∀ v H' m', Ext T H m H' m' → Ok K T H' m' S' → Rep K H' m' v d → Q v H') : Q (.ref p) (upd H p (.frz ob (.tup xs))) := by
  unfold okTup at f
  split at f
  · cases f
    have x := Ext.laid (o := .frz ob (.tup xs)) ok h
    exact q _ _ m x (ok.laid h hb) (.tup (.inl (.inr ⟨ob, upd_same⟩)) (r.mono x ok))
  · cases f
theorem newLst {c : Bool} (ok : Ok K T H m S) (h : H p = none) (r : Reps K H m xs ds) (f : okLst c ds S = some (d, S'))
    (q : ∀ v H' m', Ext T H m H' m' → Ok K T H' m' S' → Rep K H' m' v d → Q v H') : Q (.ref p) (upd H p (.lst xs)) := by
  unfold okLst at f
  split at f
  · split at f
    · cases f
      refine q _ _ (m ++ [p]) (Ext.cell ok h) (ok.newLst h r) (.loc ?_)
      rw [← ok.len]; simp
    · cases f
      have x := Ext.laid (o := .lst xs) ok h
      exact q _ _ m x (ok.laid h) (.lst upd_same (ok.free h).1 (ok.free h).2.2 (r.mono x ok))
  · cases f
theorem okTup_len (f : okTup ds S = some (d, S')) : ds.length ≤ lim := by
  unfold okTup at f
  split at f
  · assumption
  · cases f
theorem okLst_len {c : Bool} (f : okLst c ds S = some (d, S')) : ds.length ≤ lim := by
  unfold okLst at f
  split at f
  · assumption
  · cases f
end
def dTup (fr : DA) : DE := fun G S => (fr G S).bind fun p => okTup p.1 p.2
theorem rTup {fr : DA} {k : Nat} {pos : Pos} (h : PA X es (tA X.K T fr)) : PE X (.Tuple es k pos) (tD X.K T (dTup fr)) := by
  refine peImp (pe_madeT h) fun σ H Q ⟨Z, G, S, m, d, S', ok, en, f, q⟩ => ?_
  unfold dTup at f
  obtain ⟨⟨x, S1⟩, e1, f⟩ := Option.bind_eq_some_iff.mp f
  refine tA.go ok en e1 fun v H1 m1 x1 o1 en1 r1 => ⟨?_, fun p ob hp hb => ?_⟩
  · rw [r1.len]; exact lim_le (okTup_len f)
  · exact newTup (Q := Q) o1 hp hb r1 f fun w H3 m3 x3 o3 r3 => q w H3 m3 (x1.trans x3) o3 r3
def dLst (c : Bool) (fr : DA) : DE := fun G S => (fr G S).bind fun p => okLst c p.1 p.2
theorem rLst {fr : DA} {c : Bool} {pos : Pos} (h : PA X es (tA X.K T fr)) : PE X (.List es pos) (tD X.K T (dLst c fr)) := by
  refine peImp (pe_lst h) fun σ H Q ⟨Z, G, S, m, d, S', ok, en, f, q⟩ => ?_
  unfold dLst at f
  obtain ⟨⟨x, S1⟩, e1, f⟩ := Option.bind_eq_some_iff.mp f
  refine tA.go ok en e1 fun v H1 m1 x1 o1 en1 r1 => ⟨?_, fun p hp => ?_⟩
  · rw [r1.len]; exact lim_le (okLst_len f)
  · exact newLst (Q := Q) o1 hp r1 f fun w H3 m3 x3 o3 r3 => q w H3 m3 (x1.trans x3) o3 r3
def dTst (f : DE) : DT := fun G S => (f G S).bind fun p => match p.1 with | .bl b => some (b, p.2) | _ => none
/-- a value that is True or False -/
theorem rTst {f : DE} (h : PE X e (tD X.K T f)) (he : ∀ whole, isTrue e X.env whole = (do let v ← whole; standAt e.pos; holding [v] (truthy v))) : PT X e (tB X.K T (dTst f)) := by
  refine ptImp (pt_val h he) fun σ H Q ⟨Z, G, S, m, b, S', ok, en, f, q⟩ => ?_
  unfold dTst at f
  obtain ⟨⟨x, S1⟩, e1, f⟩ := Option.bind_eq_some_iff.mp f
  refine tD.go ok en e1 fun v H1 m1 x1 o1 en1 r1 => ?_
  cases x with
  | bl c => cases f; cases r1; exact ⟨_, rfl, q H1 m1 x1 o1⟩
  | _ => cases f
/-- a comparison in a test -/
def dCmpT (op : D → D → Sto → Option (D × Sto)) (fa fb : DE) : DT := dTst (dBin op fa fb)
theorem rCmpT {r : R2} {op : D → D → Sto → Option (D × Sto)} {fa fb : DE} (h : PT X e (tTest (tOp r (tD X.K T fa) (tD X.K T fb)))) (ro : Rule2 X.K T r op) : PT X e (tB X.K T (dCmpT op fa fb)) := by
  refine ptImp h fun σ H Q ⟨Z, G, S, m, b, S', ok, en, f, q⟩ => ?_
  unfold dCmpT dTst at f
  obtain ⟨⟨x, S1⟩, e1, f⟩ := Option.bind_eq_some_iff.mp f
  refine opened2 ro σ H _ ?_
  refine tD.go ok en e1 fun v H1 m1 x1 o1 en1 r1 => ?_
  cases x with
  | bl c => cases f; cases r1; exact ⟨_, rfl, q H1 m1 x1 o1⟩
  | _ => cases f
def dAnd (fa fb : DT) : DT := fun G S => (fa G S).bind fun p => if p.1 = true then fb G p.2 else some (false, p.2)
def dOr (fa fb : DT) : DT := fun G S => (fa G S).bind fun p => if p.1 = true then some (true, p.2) else fb G p.2
def dNot (fa : DT) : DT := fun G S => (fa G S).bind fun p => some (!p.1, p.2)
theorem openAnd {fa fb : DT} : ∀ σ H Q, tB X.K T (dAnd fa fb) σ H Q → tAnd (tB X.K T fa) (tB X.K T fb) σ H Q := by
  rintro σ H Q ⟨Z, G, S, m, b, S', ok, en, f, q⟩
  unfold dAnd at f
  obtain ⟨⟨x, S1⟩, e1, f⟩ := Option.bind_eq_some_iff.mp f
  refine tB.go ok en e1 fun H1 m1 x1 o1 en1 => ?_
  cases x with
  | true => exact tB.go o1 en1 f fun H2 m2 x2 o2 en2 => q H2 m2 (x1.trans x2) o2
  | false => cases f; exact q H1 m1 x1 o1
theorem openOr {fa fb : DT} : ∀ σ H Q, tB X.K T (dOr fa fb) σ H Q → tOr (tB X.K T fa) (tB X.K T fb) σ H Q := by
  rintro σ H Q ⟨Z, G, S, m, b, S', ok, en, f, q⟩
  unfold dOr at f
  obtain ⟨⟨x, S1⟩, e1, f⟩ := Option.bind_eq_some_iff.mp f
  refine tB.go ok en e1 fun H1 m1 x1 o1 en1 => ?_
  cases x with
  | false => exact tB.go o1 en1 f fun H2 m2 x2 o2 en2 => q H2 m2 (x1.trans x2) o2
  | true => cases f; exact q H1 m1 x1 o1
theorem pwImp {t t' : TT} (h : PW X e t) (w : ∀ σ H Q, t' σ H Q → t σ H Q) : PW X e t' :=
  ⟨fun wh pins s σ H Q I q => h.run wh pins s σ H Q I (w σ H Q q)⟩
theorem rNot {fa : DT} {pos : Pos} (h : PT X a (tB X.K T fa)) : PT X (.UnaryOp .Not a pos) (tB X.K T (dNot fa)) := by
  refine ptImp (pt_not h) fun σ H Q ⟨Z, G, S, m, b, S', ok, en, f, q⟩ => ?_
  unfold dNot at f
  obtain ⟨⟨x, S1⟩, e1, f⟩ := Option.bind_eq_some_iff.mp f
  cases f
  exact tB.go ok en e1 fun H1 m1 x1 o1 en1 => q H1 m1 x1 o1
/-- a if t else b -/
def dIf (ft : DT) (fa fb : DE) : DE := fun G S => (ft G S).bind fun p => if p.1 = true then fa G p.2 else fb G p.2
theorem rIf {c : Expr} {ft : DT} {fa fb : DE} {pos : Pos} (hc : PT X c (tB X.K T ft)) (ha : PE X a (tD X.K T fa)) (hb : PE X b (tD X.K T fb)) : PE X (.IfExp c a b pos) (tD X.K T (dIf ft fa fb)) := by
  refine peImp (pe_ifExp hc ha hb) fun σ H Q ⟨Z, G, S, m, d, S', ok, en, f, q⟩ => ?_
  unfold dIf at f
  obtain ⟨⟨x, S1⟩, e1, f⟩ := Option.bind_eq_some_iff.mp f
  refine tB.go ok en e1 fun H1 m1 x1 o1 en1 => ?_
  cases x with
  | true => exact tD.go o1 en1 f fun v H2 m2 x2 o2 en2 r => q v H2 m2 (x1.trans x2) o2 r
  | false => exact tD.go o1 en1 f fun v H2 m2 x2 o2 en2 r => q v H2 m2 (x1.trans x2) o2 r
/-- and, or, not as values: truths alone -/
def dAndV (fa fb : DE) : DE := fun G S => (dTst fa G S).bind fun p => if p.1 = true then fb G p.2 else some (.bl false, p.2)
def dOrV (fa fb : DE) : DE := fun G S => (dTst fa G S).bind fun p => if p.1 = true then some (.bl true, p.2) else fb G p.2
theorem dTst_some {f : DE} {G : Gam} {S S' : Sto} {b : Bool} (h : dTst f G S = some (b, S')) : f G S = some (.bl b, S') := by
  unfold dTst at h
  obtain ⟨⟨x, S1⟩, e1, h⟩ := Option.bind_eq_some_iff.mp h
  cases x <;> cases h
  exact e1
theorem rAndV {rest : List Expr} {fa fb : DE} {pos : Pos} (ha : PE X a (tD X.K T fa)) (hb : PE X (.BoolOp .And (b :: rest) pos) (tD X.K T fb)) : PE X (.BoolOp .And (a :: b :: rest) pos) (tD X.K T (dAndV fa fb)) := by
  refine peImp (pe_and ha hb) fun σ H Q ⟨Z, G, S, m, d, S', ok, en, f, q⟩ => ?_
  unfold dAndV at f
  obtain ⟨⟨x, S1⟩, e1, f⟩ := Option.bind_eq_some_iff.mp f
  refine tD.go ok en (dTst_some e1) fun v H1 m1 x1 o1 en1 r1 => ?_
  cases r1
  refine ⟨_, rfl, ?_⟩
  cases x with
  | true => exact tD.go o1 en1 f fun v H2 m2 x2 o2 en2 r => q v H2 m2 (x1.trans x2) o2 r
  | false => cases f; exact q _ H1 m1 x1 o1 (.bl _)
theorem rOrV {rest : List Expr} {fa fb : DE} {pos : Pos} (ha : PE X a (tD X.K T fa)) (hb : PE X (.BoolOp .Or (b :: rest) pos) (tD X.K T fb)) : PE X (.BoolOp .Or (a :: b :: rest) pos) (tD X.K T (dOrV fa fb)) := by
  refine peImp (pe_or ha hb) fun σ H Q ⟨Z, G, S, m, d, S', ok, en, f, q⟩ => ?_
  unfold dOrV at f
  obtain ⟨⟨x, S1⟩, e1, f⟩ := Option.bind_eq_some_iff.mp f
  refine tD.go ok en (dTst_some e1) fun v H1 m1 x1 o1 en1 r1 => ?_
  cases r1
  refine ⟨_, rfl, ?_⟩
  cases x with
  | false => exact tD.go o1 en1 f fun v H2 m2 x2 o2 en2 r => q v H2 m2 (x1.trans x2) o2 r
  | true => cases f; exact q _ H1 m1 x1 o1 (.bl _)
def dNotV (fa : DE) : DE := fun G S => (dTst fa G S).bind fun p => some (.bl (!p.1), p.2)
theorem rNotV {fa : DE} {pos : Pos} (ha : PE X a (tD X.K T fa)) : PE X (.UnaryOp .Not a pos) (tD X.K T (dNotV fa)) := by
  refine peImp (pe_not ha) fun σ H Q ⟨Z, G, S, m, d, S', ok, en, f, q⟩ => ?_
  unfold dNotV at f
  obtain ⟨⟨x, S1⟩, e1, f⟩ := Option.bind_eq_some_iff.mp f
  cases f
  refine tD.go ok en (dTst_some e1) fun v H1 m1 x1 o1 en1 r1 => ?_
  cases r1
  exact ⟨_, rfl, q _ H1 m1 x1 o1 (.bl _)⟩
end
end Vw
set_option maxRecDepth 100000
set_option maxHeartbeats 4000000
namespace Vw
open PySem PySem.Spec L2
def rOr (r r' : R2) : R2 := fun x y H Q => r x y H Q ∨ r' x y H Q
theorem opOr {X : Cx} {f : Value → Value → Sem Value} {r r' : R2} (h : OpR X f r) (h' : OpR X f r') : OpR X f (rOr r r') := OpR.or h h'
theorem peOr {X : Cx} {e : Expr} {t t' : TE} (h : PE X e t) (h' : PE X e t') : PE X e (fun σ H Q => t σ H Q ∨ t' σ H Q) :=
  ⟨fun pins s σ H Q I q => q.elim (h.run pins s σ H Q I) (h'.run pins s σ H Q I)⟩
mutual
def toP (fl : Nat → Option PyData) : D → Option PyData
  | .non => some .none
  | .bl b => some (.bool b)
  | .int i => some (.int i)
  | .str x => some (.str x)
  | .tup xs => (toPs fl xs).map PyData.tuple
  | .lst xs => (toPs fl xs).map PyData.list
  | .scr xs => (toPs fl xs).map PyData.list
  | .dic _ _ => none
  | .loc n => fl n
def toPs (fl : Nat → Option PyData) : List D → Option (List PyData)
  | [] => some []
  | x :: xs => (toP fl x).bind fun p => (toPs fl xs).map (p :: ·)
end
def noCell : Nat → Option PyData := fun _ => none
def cell1 (fl : Nat → Option PyData) (S : Sto) : Nat → Option PyData := fun n => match S[n]? with
  | some (.lst xs) => (toPs fl xs).map PyData.list
  | _ => none
/-- cells in cells -/
def pyOf (S : Sto) (d : D) : Option PyData := toP (cell1 (cell1 noCell S) S) d
section
variable {K : PySem.W.Frag × List Addr} {T : List Addr} {H : Hp} {m : List Addr} {S : Sto}
mutual
theorem toP_ok {fl : Nat → Option PyData} (hf : ∀ n a p, m[n]? = some a → fl n = some p → Dp K.1 H (.ref a) p) : ∀ {d : D} {v : V} {p : PyData}, Rep K H m v d → toP fl d = some p → Dp K.1 H v p
  | .non, _, _, r, e => by cases r; cases e; exact .non
  | .bl b, _, _, r, e => by cases r; cases e; exact .bl b
  | .int i, _, _, r, e => by cases r; cases e; exact .int i
  | .str x, _, _, r, e => by cases r; cases e; exact .str x
  | .tup xs, _, _, r, e => by
    cases r with
    | tup h rs =>
      obtain ⟨ps, e1, e2⟩ := Option.map_eq_some_iff.mp e
      subst e2
      exact .tup h (toPs_ok hf rs e1)
  | .lst xs, _, _, r, e => by
    cases r with
    | lst h n _ rs =>
      obtain ⟨ps, e1, e2⟩ := Option.map_eq_some_iff.mp e
      subst e2
      exact .lst (SqL.of h) (toPs_ok hf rs e1)
  | .scr xs, _, _, r, e => by
    cases r with
    | scr h n _ rs =>
      obtain ⟨ps, e1, e2⟩ := Option.map_eq_some_iff.mp e
      subst e2
      exact .lst (.inl h) (toPs_ok hf rs e1)
    | scrK h rs =>
      obtain ⟨ps, e1, e2⟩ := Option.map_eq_some_iff.mp e
      subst e2
      refine .lst (.inr ?_) (toPs_ok hf rs e1)
      rcases h with (h | ⟨o, h⟩) | h
      · cases h
      · cases h
      · exact h
  | .dic _ _, _, _, _, e => by cases e
  | .loc n, _, _, r, e => by
    cases r with
    | loc h => exact hf n _ _ h e
theorem toPs_ok {fl : Nat → Option PyData} (hf : ∀ n a p, m[n]? = some a → fl n = some p → Dp K.1 H (.ref a) p) : ∀ {ds : List D} {vs : List V} {ps : List PyData}, Reps K H m vs ds → toPs fl ds = some ps → DpAll K.1 H vs ps
  | [], _, _, r, e => by cases r; cases e; exact .nil
  | d :: ds, _, _, r, e => by
    cases r with
    | cons r1 r2 =>
      unfold toPs at e
      obtain ⟨p, e1, e⟩ := Option.bind_eq_some_iff.mp e
      obtain ⟨ps, e2, e3⟩ := Option.map_eq_some_iff.mp e
      subst e3
      exact .cons (toP_ok hf r1 e1) (toPs_ok hf r2 e2)
end
theorem cell1_ok (ok : Ok K T H m S) {fl : Nat → Option PyData} (hf : ∀ n a p, m[n]? = some a → fl n = some p → Dp K.1 H (.ref a) p) : ∀ n a p, m[n]? = some a → cell1 fl S n = some p → Dp K.1 H (.ref a) p := by
  intro n a p h e
  unfold cell1 at e
  split at e
  · rename_i xs es
    obtain ⟨ps, e1, e2⟩ := Option.map_eq_some_iff.mp e
    subst e2
    obtain ⟨ys, q, r⟩ := ok.lst n a xs h es
    exact .lst (SqL.of q) (toPs_ok hf r e1)
  · cases e
theorem pyOf_ok (ok : Ok K T H m S) {d : D} {v : V} {p : PyData} (r : Rep K H m v d) (e : pyOf S d = some p) : Dp K.1 H v p :=
  toP_ok (cell1_ok ok (cell1_ok ok (fun _ _ _ _ z => by cases z))) r e
end
def small (i : Int) : Bool := decide (-(2 ^ 64) < i) && decide (i < 2 ^ 64)
theorem small_iff {i : Int} (h : small i = true) : -(2 ^ 64) < i ∧ i < 2 ^ 64 := by
  unfold small at h
  simpa using h
def opAdd (c : Bool) : D → D → Sto → Option (D × Sto)
  | .int i, .int j, S => some (.int (i + j), S)
  | .str a, .str b, S => if a.length + b.length ≤ lim then some (.str (a ++ b), S) else none
  | .tup xs, .tup ys, S => okTup (xs ++ ys) S
  | .lst xs, .lst ys, S => okLst c (xs ++ ys) S
  | _, _, _ => none
def rAdd (K : PySem.W.Frag) : R2 := rOr (rI0 fun i j => .int (i + j)) (rOr (fun x y H Q => ∃ i j, x = .str i ∧ y = .str j ∧ i.length + j.length ≤ sizeLine ∧ Q (.str (i ++ j)) H) (rOr (rCatM K) rCat))
theorem opr_add {X : Cx} : OpR X (binaryOp .Add) (rAdd X.K) := opOr op_add (opOr op_add_str (opOr op_catM op_cat))
theorem rule_add {K : PySem.W.Frag} {T : List Addr} {c : Bool} : Rule2 K T (rAdd K) (opAdd c) := by
  intro Z H m S x y a b z S' Q ok rx ry f q
  unfold opAdd at f
  split at f
  · cases rx; cases ry; cases f
    exact .inl ⟨_, _, rfl, rfl, q _ H m Ext.refl ok (.int _)⟩
  · split at f
    · rename_i hl
      cases rx; cases ry; cases f
      exact .inr (.inl ⟨_, _, rfl, rfl, lim_le hl, q _ H m Ext.refl ok (.str _)⟩)
    · cases f
  · cases rx with
    | tup h1 r1 =>
      cases ry with
      | tup h2 r2 =>
        have hl := okTup_len f
        rw [List.length_append] at hl
        refine .inr (.inr (.inl ⟨_, _, _, _, rfl, rfl, h1, h2, ?_, fun e => ?_, fun _ e => ?_, fun _ _ p ob hp hb => ?_⟩))
        · rw [r1.len, r2.len]; exact lim_le hl
        · subst e
          cases r1
          unfold okTup at f
          split at f
          · cases f; exact q _ H m Ext.refl ok (.tup h2 r2)
          · cases f
        · subst e
          cases r2
          unfold okTup at f
          split at f
          · cases f
            rw [List.append_nil] at q
            exact q _ H m Ext.refl ok (.tup h1 r1)
          · cases f
        · exact newTup (Q := Q) ok hp hb (r1.app r2) f q
  · cases rx with
    | lst h1 n1 _ r1 =>
      cases ry with
      | lst h2 n2 _ r2 =>
        have hl := okLst_len f
        rw [List.length_append] at hl
        refine .inr (.inr (.inr ⟨_, _, _, _, rfl, rfl, h1, h2, ?_, fun p hp => ?_⟩))
        · rw [r1.len, r2.len]; exact lim_le hl
        · exact newLst (Q := Q) ok hp (r1.app r2) f q
  · cases f
def opSub : D → D → Sto → Option (D × Sto)
  | .int i, .int j, S => some (.int (i - j), S)
  | _, _, _ => none
theorem rule_sub {K : PySem.W.Frag} {T : List Addr} : Rule2 K T (rI0 fun i j => .int (i - j)) opSub := by
  intro Z H m S x y a b z S' Q ok rx ry f q
  unfold opSub at f
  split at f
  · cases rx; cases ry; cases f
    exact ⟨_, _, rfl, rfl, q _ H m Ext.refl ok (.int _)⟩
  · cases f
def opMod : D → D → Sto → Option (D × Sto)
  | .int i, .int j, S => if 0 < j then some (.int (i % j), S) else none
  | _, _, _ => none
theorem rule_mod {K : PySem.W.Frag} {T : List Addr} : Rule2 K T (rI (fun _ j => 0 < j) fun i j => .int (i % j)) opMod := by
  intro Z H m S x y a b z S' Q ok rx ry f q
  unfold opMod at f
  split at f
  · split at f
    · cases rx; cases ry; cases f
      exact ⟨_, _, rfl, rfl, by assumption, q _ H m Ext.refl ok (.int _)⟩
    · cases f
  · cases f
def opDiv : D → D → Sto → Option (D × Sto)
  | .int i, .int j, S => if 0 < j ∧ j < 1073741824 then some (.int (i / j), S) else none
  | _, _, _ => none
theorem rule_div {K : PySem.W.Frag} {T : List Addr} : Rule2 K T (rI CDiv fun i j => .int (i / j)) opDiv := by
  intro Z H m S x y a b z S' Q ok rx ry f q
  unfold opDiv at f
  split at f
  · split at f
    · cases rx; cases ry; cases f
      exact ⟨_, _, rfl, rfl, by assumption, q _ H m Ext.refl ok (.int _)⟩
    · cases f
  · cases f
def opPow : D → D → Sto → Option (D × Sto)
  | .int i, .int j, S => if (0 ≤ j ∧ j ≤ 1000) ∧ i.natAbs < 2 ^ 64 then some (.int (i ^ j.toNat), S) else none
  | _, _, _ => none
def opMul (c : Bool) : D → D → Sto → Option (D × Sto)
  | .int i, .int j, S => if small i = true ∨ small j = true then some (.int (i * j), S) else none
  | .lst xs, .int k, S => if 0 ≤ k ∧ k ≤ 10000 ∧ xs.length ≤ 10000 then okLst c (List.replicate k.toNat xs).flatten S else none
  | .tup xs, .int k, S => if 2 ≤ k ∧ k ≤ 1000 ∧ xs.length ≤ 1000 ∧ xs.isEmpty = false then okTup (List.replicate k.toNat xs).flatten S else none
  | _, _, _ => none
def rMul (K : PySem.W.Frag) : R2 := rOr (rI CMul fun i j => .int (i * j)) (rOr rRep (rRepM K))
theorem opr_mul {X : Cx} : OpR X (binaryOp .Mult) (rMul X.K) := opOr op_mul (opOr op_rep op_repM)
theorem Reps.flat {K : PySem.W.Frag × List Addr} {H : Hp} {m : List Addr} {vs : List V} {ds : List D} (r : Reps K H m vs ds) : ∀ n : Nat, Reps K H m (List.replicate n vs).flatten (List.replicate n ds).flatten
  | 0 => .nil
  | n + 1 => by
    rw [List.replicate_succ, List.replicate_succ, List.flatten_cons, List.flatten_cons]
    exact r.app (r.flat n)
theorem rule_mul {K : PySem.W.Frag} {T : List Addr} {c : Bool} : Rule2 K T (rMul K) (opMul c) := by
  intro Z H m S x y a b z S' Q ok rx ry f q
  unfold opMul at f
  split at f
  · split at f
    · rename_i hc
      cases rx; cases ry; cases f
      refine .inl ⟨_, _, rfl, rfl, ?_, q _ H m Ext.refl ok (.int _)⟩
      rcases hc with h | h
      · exact .inl (small_iff h)
      · exact .inr (small_iff h)
    · cases f
  · split at f
    · rename_i hc
      cases ry
      cases rx with
      | lst h n _ r =>
        refine .inr (.inl ⟨_, _, _, rfl, rfl, h, by omega, by omega, ?_, fun p hp => ?_⟩)
        · rw [r.len]
          have h2 := okLst_len f
          rw [List.length_flatten] at h2
          simp at h2
          rw [Nat.mul_comm]
          exact lim_le h2
        · exact newLst (Q := Q) ok hp (r.flat _) f q
    · cases f
  · split at f
    · rename_i hc
      cases ry
      cases rx with
      | tup h r =>
        refine .inr (.inr ⟨_, _, _, rfl, rfl, h, ?_, hc.1, hc.2.1, ?_, fun p ob hp hb => ?_⟩)
        · intro e; subst e; cases r; simp at hc
        · rw [r.len]; exact hc.2.2.1
        · exact newTup (Q := Q) ok hp hb (r.flat _) f q
    · cases f
  · cases f
def opCmp (p : Int → Int → Bool) : D → D → Sto → Option (D × Sto)
  | .int i, .int j, S => some (.bl (p i j), S)
  | _, _, _ => none
theorem rule_cmp {K : PySem.W.Frag} {T : List Addr} {p : Int → Int → Bool} : Rule2 K T (rI0 fun i j => .bl (p i j)) (opCmp p) := by
  intro Z H m S x y a b z S' Q ok rx ry f q
  unfold opCmp at f
  split at f
  · cases rx; cases ry; cases f
    exact ⟨_, _, rfl, rfl, q _ H m Ext.refl ok (.bl _)⟩
  · cases f
def eqS : D → D → Option Bool
  | .int i, .int j => some (decide (i = j))
  | .str i, .str j => some (decide (i = j))
  | .bl i, .bl j => some (decide (i = j))
  | .non, .non => some true
  | .non, .int _ | .int _, .non | .non, .bl _ | .bl _, .non | .non, .str _ | .str _, .non | .int _, .str _ | .str _, .int _ | .bl _, .str _ | .str _, .bl _ => some false
  | _, _ => none
def eqP (S : Sto) (x y : D) : Option Bool := (pyOf S x).bind fun p => (pyOf S y).bind fun q => if SeqAt.shaped p && SeqAt.shaped q then some (PyData.eqv p q) else none
def eqD (S : Sto) (x y : D) : Option Bool := match eqS x y with | some b => some b | none => eqP S x y
def opEq (neg : Bool) : D → D → Sto → Option (D × Sto) := fun x y S => (eqD S x y).map fun b => (.bl (if neg then !b else b), S)
theorem eqS_ok {K : PySem.W.Frag × List Addr} {H : Hp} {m : List Addr} {x y : V} {c d : D} {b : Bool} (rx : Rep K H m x c) (ry : Rep K H m y d) (f : eqS c d = some b) : scal x y = true ∧ decide (x = y) = b := by
  unfold eqS at f
  split at f <;> first
    | (cases f; cases rx; cases ry; exact ⟨rfl, by simp⟩)
    | (cases f; cases rx; cases ry; exact ⟨rfl, rfl⟩)
    | cases f
theorem rule_eq {K : PySem.W.Frag} {T : List Addr} : Rule2 K T (rOr rEq (rEqD K)) (opEq false) := by
  intro Z H m S x y a b z S' Q ok rx ry f q
  unfold opEq eqD at f
  obtain ⟨c, e, f⟩ := Option.map_eq_some_iff.mp f
  cases f
  split at e
  · rename_i e'
    cases e
    obtain ⟨h1, h2⟩ := eqS_ok rx ry e'
    exact .inl ⟨h1, by rw [h2]; exact q _ H m Ext.refl ok (.bl _)⟩
  · unfold eqP at e
    obtain ⟨p, e1, e⟩ := Option.bind_eq_some_iff.mp e
    obtain ⟨p', e2, e⟩ := Option.bind_eq_some_iff.mp e
    split at e
    · rename_i hs
      cases e
      simp only [Bool.and_eq_true] at hs
      exact .inr ⟨p, p', pyOf_ok ok rx e1, pyOf_ok ok ry e2, hs.1, hs.2, q _ H m Ext.refl ok (.bl _)⟩
    · cases e
theorem rule_ne {K : PySem.W.Frag} {T : List Addr} : Rule2 K T (rOr rNe (rNeD K)) (opEq true) := by
  intro Z H m S x y a b z S' Q ok rx ry f q
  unfold opEq eqD at f
  obtain ⟨c, e, f⟩ := Option.map_eq_some_iff.mp f
  cases f
  split at e
  · rename_i e'
    cases e
    obtain ⟨h1, h2⟩ := eqS_ok rx ry e'
    exact .inl ⟨h1, by rw [h2]; exact q _ H m Ext.refl ok (.bl _)⟩
  · unfold eqP at e
    obtain ⟨p, e1, e⟩ := Option.bind_eq_some_iff.mp e
    obtain ⟨p', e2, e⟩ := Option.bind_eq_some_iff.mp e
    split at e
    · rename_i hs
      cases e
      simp only [Bool.and_eq_true] at hs
      exact .inr ⟨p, p', pyOf_ok ok rx e1, pyOf_ok ok ry e2, hs.1, hs.2, q _ H m Ext.refl ok (.bl _)⟩
    · cases e
def isNon : D → Bool
  | .non => true
  | _ => false
def opIsN (neg : Bool) : D → D → Sto → Option (D × Sto)
  | x, .non, S => some (.bl (if neg then !isNon x else isNon x), S)
  | _, _, _ => none
theorem isN_ok {K : PySem.W.Frag × List Addr} {H : Hp} {m : List Addr} {x : V} {c : D} (r : Rep K H m x c) : decide (x = .non) = isNon c := by
  cases r <;> simp [isNon]
theorem rule_isN {K : PySem.W.Frag} {T : List Addr} : Rule2 K T (fun x y H Q => y = .non ∧ Q (.bl (decide (x = .non))) H) (opIsN false) := by
  intro Z H m S x y a b z S' Q ok rx ry f q
  unfold opIsN at f
  split at f
  · cases f
    cases ry
    exact ⟨rfl, by rw [isN_ok rx]; exact q _ H m Ext.refl ok (.bl _)⟩
  · cases f
theorem rule_notN {K : PySem.W.Frag} {T : List Addr} : Rule2 K T (fun x y H Q => y = .non ∧ Q (.bl (!decide (x = .non))) H) (opIsN true) := by
  intro Z H m S x y a b z S' Q ok rx ry f q
  unfold opIsN at f
  split at f
  · cases f
    cases ry
    exact ⟨rfl, by rw [isN_ok rx]; exact q _ H m Ext.refl ok (.bl _)⟩
  · cases f
def flatD : D → Bool
  | .non | .bl _ | .int _ | .str _ => true
  | _ => false
def eqF : D → D → Bool
  | .non, .non => true
  | .bl a, .bl b => a == b
  | .bl a, .int b => (if a then 1 else 0) == b
  | .int a, .bl b => a == (if b then 1 else 0)
  | .int a, .int b => a == b
  | .str a, .str b => a == b
  | _, _ => false
def seqD (S : Sto) : D → Option (List D)
  | .tup xs => some xs
  | .lst xs => some xs
  | .scr xs => some xs
  | .loc n => match S[n]? with | some (.lst xs) => some xs | _ => none
  | _ => none
theorem seqD_ok {K : PySem.W.Frag × List Addr} {T : List Addr} {H : Hp} {m : List Addr} {S : Sto} {v : V} {d : D} {ds : List D} (ok : Ok K T H m S) (r : Rep K H m v d) (e : seqD S d = some ds) :
    ∃ a xs, v = .ref a ∧ (SqL K.1 H a xs ∨ SqT K.1 H a xs) ∧ Reps K H m xs ds := by
  unfold seqD at e
  split at e
  · cases e
    cases r with
    | tup h rs => exact ⟨_, _, rfl, .inr h, rs⟩
  · cases e
    cases r with
    | lst h n _ rs => exact ⟨_, _, rfl, .inl (SqL.of h), rs⟩
  · cases e
    cases r with
    | scr h n _ rs => exact ⟨_, _, rfl, .inl (.inl h), rs⟩
    | scrK h rs =>
      refine ⟨_, _, rfl, .inl (.inr ?_), rs⟩
      rcases h with (h | ⟨o, h⟩) | h
      · cases h
      · cases h
      · exact h
  · split at e
    · rename_i es
      cases e
      cases r with
      | loc h =>
        obtain ⟨xs, q, rs⟩ := ok.lst _ _ _ h es
        exact ⟨_, _, rfl, .inl (SqL.of q), rs⟩
    · cases e
  · cases e
theorem flat_ok {K : PySem.W.Frag × List Addr} {H : Hp} {m : List Addr} {x : V} {c : D} (r : Rep K H m x c) (h : flatD c = true) : flatV x = true := by
  cases r <;> first | rfl | (simp [flatD] at h)
theorem eqF_ok {K : PySem.W.Frag × List Addr} {H : Hp} {m : List Addr} {x y : V} {c d : D} (rx : Rep K H m x c) (ry : Rep K H m y d) : eqV x y = eqF c d := by
  cases rx <;> cases ry <;> rfl
theorem flats_ok {K : PySem.W.Frag × List Addr} {H : Hp} {m : List Addr} : ∀ {xs : List V} {cs : List D}, Reps K H m xs cs → cs.all flatD = true → xs.all flatV = true
  | _, _, .nil, _ => rfl
  | _, _, .cons r t, h => by
    simp only [List.all_cons, Bool.and_eq_true] at h ⊢
    exact ⟨flat_ok r h.1, flats_ok t h.2⟩
theorem inF_ok {K : PySem.W.Frag × List Addr} {H : Hp} {m : List Addr} {x : V} {c : D} (r : Rep K H m x c) : ∀ {xs : List V} {cs : List D}, Reps K H m xs cs → inV x xs = cs.any (eqF · c)
  | _, _, .nil => rfl
  | _, _, .cons q t => by
    have ih := inF_ok r t
    unfold inV at ih ⊢
    simp only [List.any_cons, ih, eqF_ok q r]
def inP (S : Sto) (x y : D) : Option Bool := (pyOf S x).bind fun p => (pyOf S y).bind fun q => match q with
  | .list ds => if SeqAt.shaped p && SeqAt.shaped q then some (ds.any fun z => PyData.eqv z p) else none
  | .tuple ds => if SeqAt.shaped p && SeqAt.shaped q then some (ds.any fun z => PyData.eqv z p) else none
  | _ => none
def inD (S : Sto) (x y : D) : Option Bool := (seqD S y).bind fun ys => if flatD x && ys.all flatD then some (ys.any (eqF · x)) else inP S x y
def opIn (neg : Bool) : D → D → Sto → Option (D × Sto) := fun x y S => (inD S x y).map fun b => (.bl (if neg then !b else b), S)
/-- in a tuple of data -/
def rInT (K : PySem.W.Frag) (neg : Bool) : R2 := fun x y H Q => ∃ d ds, Dp K H x d ∧ Dp K H y (.tuple ds) ∧ SeqAt.shaped d = true ∧ SeqAt.shaped (.tuple ds) = true ∧
  Q (.bl (if neg then !(ds.any fun z => PyData.eqv z d) else ds.any fun z => PyData.eqv z d)) H
theorem inT_any {X : Cx} {pins : List (Addr × Obj)} {σ : L2.St} {H : Hp} {s : Shared} {x y : V} {v u : Value} {d : PyData} {ds : List PyData} (I : Inv X pins σ H s) (rx : RelV x v) (ry : RelV y u) (hd : Dp X.K H x d) (he : Dp X.K H y (.tuple ds))
    (sd : SeqAt.shaped d = true) (se : SeqAt.shaped (.tuple ds) = true) (hu : X.A.units + 65 < cLine) :
    ∃ (a : Addr) (its : List Value) (e : Value → Bool), u = .ref a ∧ s.heap.IsTuple a its.toArray ∧ (∀ y, y ∈ its.toArray → SeqAt.EqAt X.A.in1 s y v (e y)) ∧ its.toArray.any e = ds.any fun z => PyData.eqv z d := by
  obtain ⟨as, r1⟩ := Dp.reads I d x v hd rx
  cases he with
  | tup hs ha =>
    cases ry
    obtain ⟨its, rv, pl, hz⟩ := I.tuple hs
    obtain ⟨bs, r2⟩ := Dp.readsAll I ds _ its ha rv
    have h1 : PyData.canLayAll0 ds = true := SeqAt.canLay_of_shaped se
    refine ⟨_, its, fun z => PyData.eqv (SeqAt.readOf s.heap z) d, rfl, pl, SeqAt.items_eqAt (show ReadsAll s.heap its.toArray.toList ds bs by simpa using r2) r1 h1 (SeqAt.canLay_of_shaped sd) ?_, ?_⟩
    · have h2 := SeqAt.depth_of_shaped sd
      have h3 : min (PyData.depthAll ds) d.depth ≤ d.depth := Nat.min_le_right _ _
      omega
    · have hm := SeqAt.readsAll_map ds its bs h1 r2
      rw [← hm, List.any_map]
      simp [Function.comp_def]
theorem op_inT {X : Cx} (hu : X.A.units + 65 < cLine) : OpR X (compareOp .In) (rInT X.K false) := by
  intro pins s σ H x y v u Q I rx ry h
  obtain ⟨d, ds, hd, he, sd, se, q⟩ := h
  obtain ⟨a, its, e, rfl, pl, h1, h2⟩ := inT_any I rx ry hd he sd se hu
  exact SeqAt.in_tupleAt e pl h1 ⟨.bl _, H, I, rfl, by rw [h2]; exact q⟩
theorem op_notInT {X : Cx} (hu : X.A.units + 65 < cLine) : OpR X (compareOp .NotIn) (rInT X.K true) := by
  intro pins s σ H x y v u Q I rx ry h
  obtain ⟨d, ds, hd, he, sd, se, q⟩ := h
  obtain ⟨a, its, e, rfl, pl, h1, h2⟩ := inT_any I rx ry hd he sd se hu
  exact SeqAt.notIn_tupleAt e pl h1 ⟨.bl _, H, I, rfl, by rw [h2]; exact q⟩
theorem rule_in {K : PySem.W.Frag} {T : List Addr} : Rule2 K T (rOr (rIn K false) (rOr (rInD K) (rInT K false))) (opIn false) := by
  intro Z H m S x y a b z S' Q ok rx ry f q
  unfold opIn inD at f
  obtain ⟨c, e, f⟩ := Option.map_eq_some_iff.mp f
  cases f
  obtain ⟨ys, e1, e⟩ := Option.bind_eq_some_iff.mp e
  split at e
  · rename_i hs
    cases e
    simp only [Bool.and_eq_true] at hs
    obtain ⟨p, xs, rfl, hq, rs⟩ := seqD_ok ok ry e1
    refine .inl ⟨p, xs, rfl, hq, flat_ok rx hs.1, flats_ok rs hs.2, ?_⟩
    rw [inF_ok rx rs]
    exact q _ H m Ext.refl ok (.bl _)
  · unfold inP at e
    obtain ⟨p, e2, e⟩ := Option.bind_eq_some_iff.mp e
    obtain ⟨p', e3, e⟩ := Option.bind_eq_some_iff.mp e
    have d1 := pyOf_ok ok rx e2
    have d2 := pyOf_ok ok ry e3
    split at e
    · split at e
      · rename_i hs
        cases e
        simp only [Bool.and_eq_true] at hs
        exact .inr (.inl ⟨p, _, d1, d2, hs.1, hs.2, q _ H m Ext.refl ok (.bl _)⟩)
      · cases e
    · split at e
      · rename_i hs
        cases e
        simp only [Bool.and_eq_true] at hs
        exact .inr (.inr ⟨p, _, d1, d2, hs.1, hs.2, q _ H m Ext.refl ok (.bl _)⟩)
      · cases e
    · cases e
theorem rule_notIn {K : PySem.W.Frag} {T : List Addr} : Rule2 K T (rOr (rIn K true) (rOr (rNotInD K) (rInT K true))) (opIn true) := by
  intro Z H m S x y a b z S' Q ok rx ry f q
  unfold opIn inD at f
  obtain ⟨c, e, f⟩ := Option.map_eq_some_iff.mp f
  cases f
  obtain ⟨ys, e1, e⟩ := Option.bind_eq_some_iff.mp e
  split at e
  · rename_i hs
    cases e
    simp only [Bool.and_eq_true] at hs
    obtain ⟨p, xs, rfl, hq, rs⟩ := seqD_ok ok ry e1
    refine .inl ⟨p, xs, rfl, hq, flat_ok rx hs.1, flats_ok rs hs.2, ?_⟩
    rw [inF_ok rx rs]
    exact q _ H m Ext.refl ok (.bl _)
  · unfold inP at e
    obtain ⟨p, e2, e⟩ := Option.bind_eq_some_iff.mp e
    obtain ⟨p', e3, e⟩ := Option.bind_eq_some_iff.mp e
    have d1 := pyOf_ok ok rx e2
    have d2 := pyOf_ok ok ry e3
    split at e
    · split at e
      · rename_i hs
        cases e
        simp only [Bool.and_eq_true] at hs
        exact .inr (.inl ⟨p, _, d1, d2, hs.1, hs.2, q _ H m Ext.refl ok (.bl _)⟩)
      · cases e
    · split at e
      · rename_i hs
        cases e
        simp only [Bool.and_eq_true] at hs
        exact .inr (.inr ⟨p, _, d1, d2, hs.1, hs.2, q _ H m Ext.refl ok (.bl _)⟩)
      · cases e
    · cases e
def valD (ks : List Key) (ds : List D) (k : Key) : Option D := ((ks.zip ds).find? fun kv => decide (kv.1 = k)).map (·.2)
def keyOf : D → Option Key
  | .int i => some (.inl i)
  | .str x => some (.inr x)
  | _ => none
def dicD (S : Sto) : D → Option (List Key × List D)
  | .dic ks ds => some (ks, ds)
  | .loc n => match S[n]? with | some (.dic ks ds) => some (ks, ds) | _ => none
  | _ => none
def opIx : D → D → Sto → Option (D × Sto) := fun x i S => match seqD S x, i with
  | some xs, .int k => (atI xs k).map fun d => (d, S)
  | _, _ => match x, i with
    | .str z, .int k => if z.length ≤ lim then (atI z.cps.toList k).map fun c => (.str ⟨#[c]⟩, S) else none
    | _, _ => (dicD S x).bind fun p => (keyOf i).bind fun k => (valD p.1 p.2 k).map fun d => (d, S)
theorem atI_reps {K : PySem.W.Frag × List Addr} {H : Hp} {m : List Addr} {xs : List V} {ds : List D} {k : Int} {d : D} (r : Reps K H m xs ds) (e : atI ds k = some d) : ∃ v, atI xs k = some v ∧ Rep K H m v d := by
  unfold atI at e ⊢
  obtain ⟨j, e1, e2⟩ := Option.bind_eq_some_iff.mp e
  obtain ⟨v, e3, r'⟩ := r.get e2
  exact ⟨v, by rw [r.len, e1]; exact e3, r'⟩
def rDG : R2 := fun x y H Q => ∃ a v, x = .ref a ∧ DGet H a y (some v) ∧ Q v H
theorem valV_reps {K : PySem.W.Frag × List Addr} {H : Hp} {m : List Addr} {k : Key} {d : D} : ∀ {kvs : List (Key × V)} {ds : List D}, Reps K H m (kvs.map (·.2)) ds → valD (kvs.map (·.1)) ds k = some d → ∃ v, valV kvs k = some v ∧ Rep K H m v d
  | [], _, r, e => by cases r; simp [valD] at e
  | (k', w) :: kvs, [], r, e => by cases r
  | (k', w) :: kvs, d' :: ds, r, e => by
    cases r with
    | cons r1 rs =>
      by_cases h : k' = k
      · subst h
        simp [valD] at e
        subst e
        exact ⟨w, by simp [valV], r1⟩
      · have e' : valD (kvs.map (·.1)) ds k = some d := by
          simpa [valD, h] using e
        obtain ⟨v, e1, r2⟩ := valV_reps rs e'
        refine ⟨v, ?_, r2⟩
        simpa [valV, h] using e1
theorem dicD_ok {K : PySem.W.Frag × List Addr} {T : List Addr} {H : Hp} {m : List Addr} {S : Sto} {v : V} {d : D} {ks : List Key} {ds : List D} (ok : Ok K T H m S) (r : Rep K H m v d) (e : dicD S d = some (ks, ds)) :
    ∃ a kvs, v = .ref a ∧ Rd H a (.dK kvs) ∧ kvs.map (·.1) = ks ∧ Reps K H m (kvs.map (·.2)) ds := by
  unfold dicD at e
  split at e
  · cases e
    cases r with
    | dic h n _ ek rs => exact ⟨_, _, rfl, h, ek, rs⟩
  · split at e
    · rename_i es
      cases e
      cases r with
      | loc h =>
        obtain ⟨kvs, q, ek, rs⟩ := ok.dic _ _ _ _ h es
        exact ⟨_, _, rfl, .inl q, ek, rs⟩
    · cases e
  · cases e
end Vw
set_option maxRecDepth 100000
set_option maxHeartbeats 4000000
namespace Vw
open PySem PySem.Spec L2
abbrev RC := List V → Hp → VK → Prop
abbrev OpC := List D → Sto → Option (D × Sto)
def RuleC (K : PySem.W.Frag) (T : List Addr) (r : RC) (op : OpC) : Prop :=
  ∀ (Z : List Addr) (H : Hp) (m : List Addr) (S : Sto) (xs : List V) (cs : List D) (z : D) (S' : Sto) (Q : VK), Ok (K, Z) T H m S → Reps (K, Z) H m xs cs → op cs S = some (z, S') →
    (∀ v H' m', Ext T H m H' m' → Ok (K, Z) T H' m' S' → Rep (K, Z) H' m' v z → Q v H') → r xs H Q
def dCall (op : OpC) (fa : DA) : DE := fun G S => (fa G S).bind fun p => op p.1 p.2
theorem rCall {X : Cx} {T : List Addr} {e : Expr} {r : RC} {op : OpC} {fa : DA} (h : PE X e (tCB r (tA X.K T fa))) (ro : RuleC X.K T r op) : PE X e (tD X.K T (dCall op fa)) := by
  refine peImp h fun σ H Q ⟨Z, G, S, m, d, S', ok, en, f, q⟩ => ?_
  unfold dCall at f
  obtain ⟨⟨x, S1⟩, e1, f⟩ := Option.bind_eq_some_iff.mp f
  refine tA.go ok en e1 fun v H1 m1 x1 o1 en1 r1 => ?_
  exact ro Z H1 m1 S1 v x d S' Q o1 r1 f fun w H3 m3 x3 o3 r3 => q w H3 m3 (x1.trans x3) o3 r3
theorem one_inv {K : PySem.W.Frag × List Addr} {H : Hp} {m : List Addr} {xs : List V} {c : D} (r : Reps K H m xs [c]) : ∃ x, xs = [x] ∧ Rep K H m x c := by
  cases r with
  | cons r t => cases t; exact ⟨_, rfl, r⟩
theorem two_inv {K : PySem.W.Frag × List Addr} {H : Hp} {m : List Addr} {xs : List V} {c d : D} (r : Reps K H m xs [c, d]) : ∃ x y, xs = [x, y] ∧ Rep K H m x c ∧ Rep K H m y d := by
  cases r with
  | cons r t =>
    obtain ⟨y, rfl, r2⟩ := one_inv t
    exact ⟨_, _, rfl, r, r2⟩
def opLen : OpC := fun cs S => match cs with
  | [c] => match seqD S c with
    | some xs => some (.int xs.length, S)
    | none => match c with
      | .str z => if z.length ≤ lim then some (.int z.length, S) else none
      | _ => none
  | _ => none
theorem rule_len {K : PySem.W.Frag} {T : List Addr} : RuleC K T (fun xs H Q => ∃ x n, xs = [x] ∧ LenV K x H n ∧ Q (.int n) H) opLen := by
  intro Z H m S xs cs z S' Q ok r f q
  unfold opLen at f
  split at f
  · obtain ⟨x, rfl, rx⟩ := one_inv r
    split at f
    · rename_i ds e
      cases f
      obtain ⟨p, ys, rfl, hq, rs⟩ := seqD_ok ok rx e
      refine ⟨_, ds.length, rfl, ?_, q _ H m Ext.refl ok (.int _)⟩
      rcases hq with hq | hq
      · exact .inl ⟨ys, hq, rs.len.symm⟩
      · exact .inr ⟨ys, hq, rs.len.symm⟩
    · split at f
      · split at f
        · rename_i hl
          cases f
          cases rx
          exact ⟨_, _, rfl, ⟨lim_le hl, rfl⟩, q _ H m Ext.refl ok (.int _)⟩
        · cases f
      · cases f
  · cases f
def opAbs : OpC := fun cs S => match cs with
  | [.int i] => some (.int (if i < 0 then -i else i), S)
  | _ => none
theorem rule_abs {K : PySem.W.Frag} {T : List Addr} : RuleC K T (fun xs H Q => ∃ i, xs = [.int i] ∧ Q (.int (if i < 0 then -i else i)) H) opAbs := by
  intro Z H m S xs cs z S' Q ok r f q
  unfold opAbs at f
  split at f
  · obtain ⟨x, rfl, rx⟩ := one_inv r
    cases rx; cases f
    exact ⟨_, rfl, q _ H m Ext.refl ok (.int _)⟩
  · cases f
def opInt : OpC := fun cs S => match cs with
  | [.int i] => some (.int i, S)
  | [.bl b] => some (.int (if b then 1 else 0), S)
  | _ => none
theorem rule_int {K : PySem.W.Frag} {T : List Addr} : RuleC K T (fun xs H Q => (∃ i, xs = [.int i] ∧ Q (.int i) H) ∨ ∃ k, xs = [.bl k] ∧ Q (.int (if k then 1 else 0)) H) opInt := by
  intro Z H m S xs cs z S' Q ok r f q
  unfold opInt at f
  split at f
  · obtain ⟨x, rfl, rx⟩ := one_inv r
    cases rx; cases f
    exact .inl ⟨_, rfl, q _ H m Ext.refl ok (.int _)⟩
  · obtain ⟨x, rfl, rx⟩ := one_inv r
    cases rx; cases f
    exact .inr ⟨_, rfl, q _ H m Ext.refl ok (.int _)⟩
  · cases f
def opList (c : Bool) : OpC := fun cs S => match cs with
  | [x] => (seqD S x).bind fun ds => okLst c ds S
  | _ => none
theorem rule_list {K : PySem.W.Frag} {T : List Addr} {c : Bool} : RuleC K T (fun xs H Q => ∃ p ys, xs = [.ref p] ∧ (SqL K H p ys ∨ SqT K H p ys) ∧ ∀ l, H l = none → Q (.ref l) (upd H l (.lst ys))) (opList c) := by
  intro Z H m S xs cs z S' Q ok r f q
  unfold opList at f
  split at f
  · obtain ⟨x, rfl, rx⟩ := one_inv r
    obtain ⟨ds, e, f⟩ := Option.bind_eq_some_iff.mp f
    obtain ⟨p, ys, rfl, hq, rs⟩ := seqD_ok ok rx e
    exact ⟨_, _, rfl, hq, fun l hl => newLst (Q := Q) ok hl rs f q⟩
  · cases f
def opTuple : OpC := fun cs S => match cs with
  | [x] => (seqD S x).bind fun ds => okTup ds S
  | _ => none
theorem rule_tuple {K : PySem.W.Frag} {T : List Addr} : RuleC K T (fun xs H Q => ∃ p ys, xs = [.ref p] ∧ ((SqL K H p ys ∧ MadeT Q ys H) ∨ (SqT K H p ys ∧ Q (.ref p) H))) opTuple := by
  intro Z H m S xs cs z S' Q ok r f q
  unfold opTuple at f
  split at f
  · obtain ⟨x, rfl, rx⟩ := one_inv r
    obtain ⟨ds, e, f⟩ := Option.bind_eq_some_iff.mp f
    obtain ⟨p, ys, rfl, hq, rs⟩ := seqD_ok ok rx e
    refine ⟨_, ys, rfl, ?_⟩
    rcases hq with hq | hq
    · exact .inl ⟨hq, fun l ob hl hb => newTup (Q := Q) ok hl hb rs f q⟩
    · refine .inr ⟨hq, ?_⟩
      unfold okTup at f
      split at f
      · cases f
        exact q _ H m Ext.refl ok (.tup hq rs)
      · cases f
  · cases f
/-- all of a list of truths -/
def blsD : List D → Option (List Bool)
  | [] => some []
  | .bl b :: ds => (blsD ds).map (b :: ·)
  | _ :: _ => none
theorem bls_ok {K : PySem.W.Frag × List Addr} {H : Hp} {m : List Addr} : ∀ {ds : List D} {xs : List V} {bs : List Bool}, Reps K H m xs ds → blsD ds = some bs → xs = bs.map V.bl
  | [], _, _, r, e => by cases r; cases e; rfl
  | .bl b :: ds, _, _, r, e => by
    cases r with
    | cons r1 rs =>
      unfold blsD at e
      obtain ⟨cs, e1, e2⟩ := Option.map_eq_some_iff.mp e
      subst e2
      cases r1
      rw [bls_ok rs e1]; rfl
  | .non :: _, _, _, _, e | .int _ :: _, _, _, _, e | .str _ :: _, _, _, _, e | .tup _ :: _, _, _, _, e | .lst _ :: _, _, _, _, e | .dic _ _ :: _, _, _, _, e | .loc _ :: _, _, _, _, e | .scr _ :: _, _, _, _, e => by simp [blsD] at e
def intsD : List D → Option (List Int)
  | [] => some []
  | .int b :: ds => (intsD ds).map (b :: ·)
  | _ :: _ => none
theorem ints_ok {K : PySem.W.Frag × List Addr} {H : Hp} {m : List Addr} : ∀ {ds : List D} {xs : List V} {bs : List Int}, Reps K H m xs ds → intsD ds = some bs → xs = bs.map V.int
  | [], _, _, r, e => by cases r; cases e; rfl
  | .int b :: ds, _, _, r, e => by
    cases r with
    | cons r1 rs =>
      unfold intsD at e
      obtain ⟨cs, e1, e2⟩ := Option.map_eq_some_iff.mp e
      subst e2
      cases r1
      rw [ints_ok rs e1]; rfl
  | .non :: _, _, _, _, e | .bl _ :: _, _, _, _, e | .str _ :: _, _, _, _, e | .tup _ :: _, _, _, _, e | .lst _ :: _, _, _, _, e | .dic _ _ :: _, _, _, _, e | .loc _ :: _, _, _, _, e | .scr _ :: _, _, _, _, e => by simp [intsD] at e
def lstD (S : Sto) : D → Option (List D)
  | .lst xs => some xs
  | .loc n => match S[n]? with | some (.lst xs) => some xs | _ => none
  | _ => none
theorem lstD_ok {K : PySem.W.Frag × List Addr} {T : List Addr} {H : Hp} {m : List Addr} {S : Sto} {v : V} {d : D} {ds : List D} (ok : Ok K T H m S) (r : Rep K H m v d) (e : lstD S d = some ds) :
    ∃ a xs, v = .ref a ∧ H a = some (.lst xs) ∧ Reps K H m xs ds := by
  unfold lstD at e
  split at e
  · cases e
    cases r with
    | lst h n _ rs => exact ⟨_, _, rfl, h, rs⟩
  · split at e
    · rename_i es
      cases e
      cases r with
      | loc h =>
        obtain ⟨xs, q, rs⟩ := ok.lst _ _ _ h es
        exact ⟨_, _, rfl, q, rs⟩
    · cases e
  · cases e
def opAll : OpC := fun cs S => match cs with
  | [x] => (lstD S x).bind fun ds => (blsD ds).map fun bs => (.bl (bs.all id), S)
  | _ => none
theorem rule_all {K : PySem.W.Frag} {T : List Addr} : RuleC K T (rAll K) opAll := by
  intro Z H m S xs cs z S' Q ok r f q
  unfold opAll at f
  split at f
  · obtain ⟨x, rfl, rx⟩ := one_inv r
    obtain ⟨ds, e, f⟩ := Option.bind_eq_some_iff.mp f
    obtain ⟨bs, e2, f⟩ := Option.map_eq_some_iff.mp f
    cases f
    obtain ⟨p, ys, rfl, hq, rs⟩ := lstD_ok ok rx e
    have e3 := bls_ok rs e2
    subst e3
    exact ⟨p, bs, rfl, SqL.of hq, q _ H m Ext.refl ok (.bl _)⟩
  · cases f
def showable (p : PyData) : Bool := p.showable && !p.hasDict && decide (p.depth ≤ 60) && decide (p.shown.length ≤ lim)
abbrev RM := V → List V → Hp → VK → Prop
abbrev OpM := D → List D → Sto → Option (D × Sto)
def RuleM (K : PySem.W.Frag) (T : List Addr) (r : RM) (op : OpM) : Prop :=
  ∀ (Z : List Addr) (H : Hp) (m : List Addr) (S : Sto) (x : V) (c : D) (xs : List V) (cs : List D) (z : D) (S' : Sto) (Q : VK), Ok (K, Z) T H m S → Rep (K, Z) H m x c → Reps (K, Z) H m xs cs → op c cs S = some (z, S') →
    (∀ v H' m', Ext T H m H' m' → Ok (K, Z) T H' m' S' → Rep (K, Z) H' m' v z → Q v H') → r x xs H Q
def tyD (T : String) (S : Sto) (d : D) : Bool := match d with
  | .str _ => T == "str"
  | d => T == "list" && (lstD S d).isSome
theorem tyD_ok {K : PySem.W.Frag × List Addr} {T : List Addr} {H : Hp} {m : List Addr} {S : Sto} {v : V} {d : D} {t : String} (ok : Ok K T H m S) (r : Rep K H m v d) (e : tyD t S d = true) : tyV K.1 t v H := by
  unfold tyD at e
  split at e
  · cases r
    exact eq_of_beq e
  · simp only [Bool.and_eq_true] at e
    obtain ⟨ds, h⟩ := Option.isSome_iff_exists.mp e.2
    obtain ⟨a, xs, rfl, hq, _⟩ := lstD_ok ok r h
    exact .inl ⟨eq_of_beq e.1, xs, SqL.of hq⟩
def dMeth (t : String) (op : OpM) (fo : DE) (fa : DA) : DE := fun G S => (fo G S).bind fun p => if tyD t p.2 p.1 = true then (fa G p.2).bind fun q => op p.1 q.1 q.2 else none
theorem rMeth {X : Cx} {T : List Addr} {e : Expr} {t : String} {r : RM} {op : OpM} {fo : DE} {fa : DA} (h : PE X e (tBM X.K t r (tD X.K T fo) (tA X.K T fa))) (ro : RuleM X.K T r op) : PE X e (tD X.K T (dMeth t op fo fa)) := by
  refine peImp h fun σ H Q ⟨Z, G, S, m, d, S', ok, en, f, q⟩ => ?_
  unfold dMeth at f
  obtain ⟨⟨x, S1⟩, e1, f⟩ := Option.bind_eq_some_iff.mp f
  split at f
  · rename_i ht
    obtain ⟨⟨y, S2⟩, e2, f⟩ := Option.bind_eq_some_iff.mp f
    refine tD.go ok en e1 fun v H1 m1 x1 o1 en1 r1 => ⟨tyD_ok o1 r1 ht, ?_⟩
    refine tA.go o1 en1 e2 fun us H2 m2 x2 o2 en2 r2 => ?_
    exact ro Z H2 m2 S2 v x us y d S' Q o2 (r1.mono x2 o1) r2 f fun w H3 m3 x3 o3 r3 => q w H3 m3 ((x1.trans x2).trans x3) o3 r3
  · cases f
def dMeth0 (t : String) (op : OpM) (fo : DE) : DE := fun G S => (fo G S).bind fun p => if tyD t p.2 p.1 = true then op p.1 [] p.2 else none
theorem rMeth0 {X : Cx} {T : List Addr} {e : Expr} {t : String} {r : RM} {op : OpM} {fo : DE} (h : PE X e (tBM0 X.K t r (tD X.K T fo))) (ro : RuleM X.K T r op) : PE X e (tD X.K T (dMeth0 t op fo)) := by
  refine peImp h fun σ H Q ⟨Z, G, S, m, d, S', ok, en, f, q⟩ => ?_
  unfold dMeth0 at f
  obtain ⟨⟨x, S1⟩, e1, f⟩ := Option.bind_eq_some_iff.mp f
  split at f
  · rename_i ht
    refine tD.go ok en e1 fun v H1 m1 x1 o1 en1 r1 => ⟨tyD_ok o1 r1 ht, ?_⟩
    exact ro Z H1 m1 S1 v x [] [] d S' Q o1 r1 .nil f fun w H3 m3 x3 o3 r3 => q w H3 m3 (x1.trans x3) o3 r3
  · cases f
/-- a cell that is a list -/
theorem locL {K : PySem.W.Frag × List Addr} {T : List Addr} {H : Hp} {m : List Addr} {S : Sto} {v : V} {n : Nat} {ds : List D} (ok : Ok K T H m S) (r : Rep K H m v (.loc n)) (e : S[n]? = some (Cell.lst ds)) :
    ∃ a xs, v = .ref a ∧ m[n]? = some a ∧ H a = some (.lst xs) ∧ Reps K H m xs ds := by
  cases r with
  | loc h =>
    obtain ⟨xs, q, rs⟩ := ok.lst _ _ _ h e
    exact ⟨_, xs, rfl, h, q, rs⟩
def opAppend : OpM := fun c cs S => match c, cs with
  | .loc n, [y] => match S[n]? with
    | some (.lst ds) => if ds.length < lim then some (.non, S.set n (Cell.lst (ds ++ [y]))) else none
    | _ => none
  | _, _ => none
theorem rule_append {K : PySem.W.Frag} {T : List Addr} : RuleM K T rAppend opAppend := by
  intro Z H m S x c xs cs z S' Q ok rx r f q
  unfold opAppend at f
  split at f
  · split at f
    · rename_i ds es
      split at f
      · rename_i hl
        cases f
        obtain ⟨y, rfl, ry⟩ := one_inv r
        obtain ⟨a, vs, rfl, hm, hq, rs⟩ := locL ok rx es
        refine ⟨_, _, _, rfl, rfl, hq, ?_, ?_⟩
        · rw [rs.len]; exact lim_lt (Nat.le_of_lt hl)
        · exact q _ _ m (Ext.put ok hm) (ok.putLst hm (rs.app (.one ry))) .non
      · cases f
    · cases f
  · cases f
def opPopAt : OpM := fun c cs S => match c, cs with
  | .loc n, [.int i] => match S[n]? with
    | some (.lst ds) => if 0 ≤ i ∧ i < 1000000000 then (match ds[i.toNat]? with | some d => some (d, S.set n (Cell.lst (ds.eraseIdx i.toNat))) | none => none) else none
    | _ => none
  | _, _ => none
theorem Reps.erase {K : PySem.W.Frag × List Addr} {H : Hp} {m : List Addr} : ∀ {vs : List V} {ds : List D} (n : Nat), Reps K H m vs ds → Reps K H m (vs.eraseIdx n) (ds.eraseIdx n)
  | _, _, _, .nil => .nil
  | _, _, 0, .cons _ t => t
  | _, _, n + 1, .cons r t => .cons r (t.erase n)
theorem seqIndex_nn {i : Int} {n : Nat} (h : 0 ≤ i) (h2 : i.toNat < n) : seqIndex? i n = some i.toNat := by
  have e : ixN n i = some i.toNat := by
    unfold ixN
    rw [if_pos h, if_pos (by omega)]
  exact (ixN_seq e).1
theorem rule_popAt {K : PySem.W.Frag} {T : List Addr} : RuleM K T rPopAt opPopAt := by
  intro Z H m S x c xs cs z S' Q ok rx r f q
  unfold opPopAt at f
  split at f
  · split at f
    · rename_i ds es
      split at f
      · rename_i hi
        split at f
        · rename_i d ed
          cases f
          obtain ⟨y, rfl, ry⟩ := one_inv r
          cases ry
          obtain ⟨a, vs, rfl, hm, hq, rs⟩ := locL ok rx es
          obtain ⟨v, ev, rv⟩ := rs.get ed
          have hlt := (List.getElem?_eq_some_iff.mp ev).1
          refine ⟨_, _, _, _, _, rfl, rfl, hq, by omega, by omega, seqIndex_nn hi.1 hlt, ev, ?_⟩
          exact q _ _ m (Ext.put ok hm) (ok.putLst hm (rs.erase _)) (rv.mono (Ext.put ok hm) ok)
        · cases f
      · cases f
    · cases f
  · cases f
def opInsert : OpM := fun c cs S => match c, cs with
  | .loc n, [.int i, y] => match S[n]? with
    | some (.lst ds) => if 0 ≤ i ∧ i < 1000000000 ∧ ds.length < lim then some (.non, S.set n (Cell.lst (ds.take i.toNat ++ [y] ++ ds.drop i.toNat))) else none
    | _ => none
  | _, _ => none
def opExtend : OpM := fun c cs S => match c, cs with
  | .loc n, [y] => match S[n]?, lstD S y with
    | some (.lst ds), some es => if ds.length + es.length ≤ lim then some (.non, S.set n (Cell.lst (ds ++ es))) else none
    | _, _ => none
  | _, _ => none
theorem rule_extend {K : PySem.W.Frag} {T : List Addr} : RuleM K T rExtend opExtend := by
  intro Z H m S x c xs cs z S' Q ok rx r f q
  unfold opExtend at f
  split at f
  · split at f
    · rename_i ds es e1 e2
      split at f
      · rename_i hl
        cases f
        obtain ⟨y, rfl, ry⟩ := one_inv r
        obtain ⟨a, vs, rfl, hm, hq, rs⟩ := locL ok rx e1
        obtain ⟨b, ws, rfl, hb, rt⟩ := lstD_ok ok ry e2
        refine ⟨_, _, _, _, rfl, rfl, hq, hb, ?_, ?_⟩
        · rw [rs.len, rt.len]; exact lim_le hl
        · exact q _ _ m (Ext.put ok hm) (ok.putLst hm (rs.app rt)) .non
      · cases f
    · cases f
  · cases f
end Vw
set_option maxRecDepth 100000
set_option maxHeartbeats 4000000
namespace Vw
open PySem PySem.Spec L2
inductive Fl where
  | nx | rt (d : D) | bk | ct
abbrev DS := Gam → Sto → Option (Fl × Gam × Sto)
/-- what a statement's end hands on -/
def Fin1 (K : PySem.W.Frag × List Addr) (Dn : Ends) (fl : Fl) (G' : Gam) (H' : Hp) (m' : List Addr) : Prop := match fl with
  | .nx => ∀ σ', EnvOk K H' m' σ' G' → Dn.nx σ' H'
  | .rt d => ∀ v, Rep K H' m' v d → Dn.rt v H'
  | .bk => ∀ σ', EnvOk K H' m' σ' G' → Dn.bk σ' H'
  | .ct => ∀ σ', EnvOk K H' m' σ' G' → Dn.ct σ' H'
def sD (K : PySem.W.Frag) (T : List Addr) (f : DS) : TS := fun Dn σ H => ∃ (Z : List Addr) (G : Gam) (S : Sto) (m : List Addr) (fl : Fl) (G' : Gam) (S' : Sto), Ok (K, Z) T H m S ∧ EnvOk (K, Z) H m σ G ∧ f G S = some (fl, G', S') ∧
  ∀ H' m', Ext T H m H' m' → Ok (K, Z) T H' m' S' → Fin1 (K, Z) Dn fl G' H' m'
theorem psImp {X : Cx} {st : Stmt} {t t' : TS} (h : PS X st t) (w : ∀ D σ H, t' D σ H → t D σ H) : PS X st t' :=
  ⟨fun pins s σ H D I q => h.run pins s σ H D I (w D σ H q)⟩
theorem pssImp {X : Cx} {st : List Stmt} {t t' : TS} (h : PSs X st t) (w : ∀ D σ H, t' D σ H → t D σ H) : PSs X st t' :=
  ⟨fun pins s σ H D I q => h.run pins s σ H D I (w D σ H q)⟩
section
variable {X : Cx} {T : List Addr} {e : Expr} {st : Stmt} {rest : List Stmt}
theorem sD.go {K : PySem.W.Frag} {Z : List Addr} {H : Hp} {m : List Addr} {S S' : Sto} {σ : L2.St} {G G' : Gam} {f : DS} {fl : Fl} {Dn : Ends} (ok : Ok (K, Z) T H m S) (en : EnvOk (K, Z) H m σ G) (e : f G S = some (fl, G', S'))
    (h : ∀ H1 m1, Ext T H m H1 m1 → Ok (K, Z) T H1 m1 S' → Fin1 (K, Z) Dn fl G' H1 m1) : sD K T f Dn σ H := ⟨Z, G, S, m, fl, G', S', ok, en, e, h⟩
def dSkip : DS := fun G S => some (.nx, G, S)
theorem rSkip : PSs X [] (sD X.K T dSkip) := by
  refine pssImp pss_nil fun D σ H ⟨Z, G, S, m, fl, G', S', ok, en, f, q⟩ => ?_
  cases f
  exact q H m Ext.refl ok σ en
def dSeq (f g : DS) : DS := fun G S => (f G S).bind fun p => match p.1 with
  | .nx => g p.2.1 p.2.2
  | _ => some p
theorem rSeq {f g : DS} (h1 : PS X st (sD X.K T f)) (h2 : PSs X rest (sD X.K T g)) : PSs X (st :: rest) (sD X.K T (dSeq f g)) := by
  refine pssImp (pss_cons h1 h2) fun D σ H ⟨Z, G, S, m, fl, G', S', ok, en, f, q⟩ => ?_
  unfold dSeq at f
  obtain ⟨⟨fl1, G1, S1⟩, e1, f⟩ := Option.bind_eq_some_iff.mp f
  refine sD.go ok en e1 fun H1 m1 x1 o1 => ?_
  cases fl1 with
  | nx => exact fun σ1 en1 => sD.go o1 en1 f fun H2 m2 x2 o2 => q H2 m2 (x1.trans x2) o2
  | rt d => cases f; exact q H1 m1 x1 o1
  | bk => cases f; exact q H1 m1 x1 o1
  | ct => cases f; exact q H1 m1 x1 o1
def dExpr (f : DE) : DS := fun G S => (f G S).bind fun p => some (.nx, G, p.2)
theorem rExpr {f : DE} {pos : Pos} (h : PE X e (tD X.K T f)) (hs : swapsWith e none pos.line X.env = pure false) : PS X (.Expr e pos) (sD X.K T (dExpr f)) := by
  refine psImp (ps_expr h hs) fun D σ H ⟨Z, G, S, m, fl, G', S', ok, en, f, q⟩ => ?_
  unfold dExpr at f
  obtain ⟨⟨d, S1⟩, e1, f⟩ := Option.bind_eq_some_iff.mp f
  cases f
  exact tD.go ok en e1 fun v H1 m1 x1 o1 en1 r1 => q H1 m1 x1 o1 σ en1
def dRet (f : DE) : DS := fun G S => (f G S).bind fun p => some (.rt p.1, G, p.2)
theorem rRet {f : DE} {pos : Pos} (h : PE X e (tD X.K T f)) : PS X (.Return (some e) pos) (sD X.K T (dRet f)) := by
  refine psImp (ps_ret h) fun D σ H ⟨Z, G, S, m, fl, G', S', ok, en, f, q⟩ => ?_
  unfold dRet at f
  obtain ⟨⟨d, S1⟩, e1, f⟩ := Option.bind_eq_some_iff.mp f
  cases f
  exact tD.go ok en e1 fun v H1 m1 x1 o1 en1 r1 => q H1 m1 x1 o1 v r1
def dIte (t : DT) (f g : DS) : DS := fun G S => (t G S).bind fun p => if p.1 = true then f G p.2 else g G p.2
theorem rIte {c : Expr} {a b : List Stmt} {t : DT} {f g : DS} {pos : Pos} (hc : PT X c (tB X.K T t)) (ha : PSs X a (sD X.K T f)) (hb : PSs X b (sD X.K T g)) : PS X (.If c a b pos) (sD X.K T (dIte t f g)) := by
  refine psImp (ps_if hc ha hb) fun D σ H ⟨Z, G, S, m, fl, G', S', ok, en, f, q⟩ => ?_
  unfold dIte at f
  obtain ⟨⟨b, S1⟩, e1, f⟩ := Option.bind_eq_some_iff.mp f
  refine tB.go ok en e1 fun H1 m1 x1 o1 en1 => ?_
  cases b with
  | true => exact sD.go o1 en1 f fun H2 m2 x2 o2 => q H2 m2 (x1.trans x2) o2
  | false => exact sD.go o1 en1 f fun H2 m2 x2 o2 => q H2 m2 (x1.trans x2) o2
abbrev DG := D → Gam → Sto → Option (Gam × Sto)
abbrev DGs := List D → Gam → Sto → Option (Gam × Sto)
def Sl (I : List Nat) (σ σ' : L2.St) : Prop := σ'.length = σ.length ∧ ∀ j, j ∉ I → σ'[j]? = σ[j]?
theorem Sl.refl {I : List Nat} {σ : L2.St} : Sl I σ σ := ⟨rfl, fun _ _ => rfl⟩
theorem Sl.trans {I : List Nat} {σ σ' σ'' : L2.St} (a : Sl I σ σ') (b : Sl I σ' σ'') : Sl I σ σ'' := ⟨b.1.trans a.1, fun j h => (b.2 j h).trans (a.2 j h)⟩
theorem Sl.set {I : List Nat} {σ : L2.St} {i : Nat} {v : Option V} (h : i ∈ I) : Sl I σ (σ.set i v) := ⟨by simp, fun j hj => List.getElem?_set_ne (fun (z : i = j) => hj (by rw [← z]; exact h))⟩
def gD (K : PySem.W.Frag) (T : List Addr) (I : List Nat) (g : DG) : TG := fun v σ H Q => ∃ (Z : List Addr) (d : D) (G : Gam) (S : Sto) (m : List Addr) (G' : Gam) (S' : Sto), Ok (K, Z) T H m S ∧ EnvOk (K, Z) H m σ G ∧ Rep (K, Z) H m v d ∧ g d G S = some (G', S') ∧
  ∀ σ' H' m', Ext T H m H' m' → Ok (K, Z) T H' m' S' → EnvOk (K, Z) H' m' σ' G' → Sl I σ σ' → Q σ' H'
def gsD (K : PySem.W.Frag) (T : List Addr) (I : List Nat) (g : DGs) : TGs := fun vs σ H Q => ∃ (Z : List Addr) (ds : List D) (G : Gam) (S : Sto) (m : List Addr) (G' : Gam) (S' : Sto), Ok (K, Z) T H m S ∧ EnvOk (K, Z) H m σ G ∧ Reps (K, Z) H m vs ds ∧ g ds G S = some (G', S') ∧
  ∀ σ' H' m', Ext T H m H' m' → Ok (K, Z) T H' m' S' → EnvOk (K, Z) H' m' σ' G' → Sl I σ σ' → Q σ' H'
theorem pgImp {t : Expr} {g g' : TG} (h : PG X t g) (w : ∀ v σ H Q, g' v σ H Q → g v σ H Q) : PG X t g' :=
  ⟨fun pins s σ H v u Q I r q => h.run pins s σ H v u Q I r (w v σ H Q q)⟩
theorem pgsImp {t : List Expr} {g g' : TGs} (h : PGs X t g) (w : ∀ v σ H Q, g' v σ H Q → g v σ H Q) : PGs X t g' :=
  ⟨fun pins s σ H v u Q I r q => h.run pins s σ H v u Q I r (w v σ H Q q)⟩
def dgName (i : Nat) : DG := fun d G S => some (G.set i (some d), S)
theorem rgName {I : List Nat} {i : Nat} {t : Expr} (hi : i ∈ I) (h : PG X t (gName i)) : PG X t (gD X.K T I (dgName i)) := by
  refine pgImp h fun v σ H Q ⟨Z, d, G, S, m, G', S', ok, en, r, f, q⟩ => ?_
  cases f
  exact q _ H m Ext.refl ok (en.set r) (Sl.set hi)
def dgNil : DGs := fun ds G S => match ds with | [] => some (G, S) | _ => none
def dgCons (g : DG) (gs : DGs) : DGs := fun ds G S => match ds with
  | d :: ds => (g d G S).bind fun p => gs ds p.1 p.2
  | [] => none
theorem rgNil {I : List Nat} : PGs X [] (gsD X.K T I dgNil) := by
  refine pgsImp pgs_nil fun v σ H Q ⟨Z, ds, G, S, m, G', S', ok, en, r, f, q⟩ => ?_
  unfold dgNil at f
  split at f
  · cases f; cases r
    exact ⟨rfl, q _ H m Ext.refl ok en Sl.refl⟩
  · cases f
theorem rgCons {I : List Nat} {t : Expr} {ts : List Expr} {g : DG} {gs : DGs} (h : PG X t (gD X.K T I g)) (hs : PGs X ts (gsD X.K T I gs)) (h2 : (assignEach (t :: ts) X.env).map (·.2) = assign t X.env :: (assignEach ts X.env).map (·.2)) : PGs X (t :: ts) (gsD X.K T I (dgCons g gs)) := by
  refine pgsImp (pgs_cons h hs h2) fun v σ H Q ⟨Z, ds, G, S, m, G', S', ok, en, r, f, q⟩ => ?_
  unfold dgCons at f
  split at f
  · rename_i d ds
    obtain ⟨⟨G1, S1⟩, e1, f⟩ := Option.bind_eq_some_iff.mp f
    cases r with
    | cons r1 rs =>
      refine ⟨_, _, rfl, Z, d, G, S, m, G1, S1, ok, en, r1, e1, fun σ1 H1 m1 x1 o1 en1 s1 => ?_⟩
      exact ⟨Z, ds, G1, S1, m1, G', S', o1, en1, rs.mono x1 ok, f, fun σ2 H2 m2 x2 o2 en2 s2 => q σ2 H2 m2 (x1.trans x2) o2 en2 (s1.trans s2)⟩
  · cases f
def dgTup (n : Nat) (gs : DGs) : DG := fun d G S => match d with
  | .tup ds => if ds.length = n then gs ds G S else none
  | _ => none
theorem rgTup {I : List Nat} {t : Expr} {n : Nat} {gs : DGs} (h : PG X t (gTup X.K n (gsD X.K T I gs))) : PG X t (gD X.K T I (dgTup n gs)) := by
  refine pgImp h fun v σ H Q ⟨Z, d, G, S, m, G', S', ok, en, r, f, q⟩ => ?_
  unfold dgTup at f
  split at f
  · split at f
    · rename_i hn
      cases r with
      | tup h rs => exact ⟨_, _, rfl, h, by rw [rs.len]; exact hn, Z, _, G, S, m, G', S', ok, en, rs, f, q⟩
    · cases f
  · cases f
/-- a store into a list or a dict -/
def opPut : D → D → D → Sto → Option Sto := fun o i v S => match o with
  | .loc n => match S[n]? with
    | some (.lst ds) => match i with
      | .int k => match ixN ds.length k with
        | some j => some (S.set n (Cell.lst (ds.set j v)))
        | none => none
      | _ => none
    | some (.dic ks ds) => match keyOf i with
      | some k => if ks.length < lim then some (S.set n (let kv := putK' k v ks ds; Cell.dic kv.1 kv.2)) else none
      | none => none
    | none => none
  | _ => none
where
  putK' (k : Key) (v : D) (ks : List Key) (ds : List D) : List Key × List D :=
    if (ks.any fun x => decide (x = k)) = true then (ks, (ks.zip ds).map fun p => if p.1 = k then v else p.2) else (ks ++ [k], ds ++ [v])
def rPut : V → V → V → Hp → (Hp → Prop) → Prop := fun o i v H Q => rSetL o i v H Q ∨ ∃ a H', o = .ref a ∧ DPut H a i v H' ∧ Q H'
theorem set_dict (hu : X.A.units + 1 < cLine) : PSet X (fun o i v H Q => ∃ a H', o = .ref a ∧ DPut H a i v H' ∧ Q H') := by
  intro pins s σ H o i v ov iv u Q I ro ri rv h
  obtain ⟨a, H', rfl, g, q⟩ := h
  obtain rfl : ov = Value.ref a := ro
  exact d_setItem hu I g ri rv fun s4 I4 => ⟨H', I4, q⟩
theorem set_any (hu : X.A.units + 1 < cLine) : PSet X rPut := by
  intro pins s σ H o i v ov iv u Q I ro ri rv h
  exact h.elim (set_list pins s σ H o i v ov iv u Q I ro ri rv) (set_dict hu pins s σ H o i v ov iv u Q I ro ri rv)
theorem map_fst_if {k : Key} {v : V} (kvs : List (Key × V)) : (kvs.map fun kv => if kv.1 = k then (kv.1, v) else kv).map (·.1) = kvs.map (·.1) := by
  rw [List.map_map]
  apply List.map_congr_left
  intro p _
  simp only [Function.comp]
  split <;> rfl
theorem putK_reps {K : PySem.W.Frag × List Addr} {H : Hp} {m : List Addr} {k : Key} {v : V} {d : D} (rv : Rep K H m v d) {kvs : List (Key × V)} {ds : List D} (r : Reps K H m (kvs.map (·.2)) ds) :
    (putK kvs k v).map (·.1) = (opPut.putK' k d (kvs.map (·.1)) ds).1 ∧ Reps K H m ((putK kvs k v).map (·.2)) (opPut.putK' k d (kvs.map (·.1)) ds).2 := by
  have any_iff : (kvs.any fun kv => decide (kv.1 = k)) = ((kvs.map (·.1)).any fun x => decide (x = k)) := by
    rw [List.any_map]; rfl
  unfold putK opPut.putK'
  by_cases h : ((kvs.map (·.1)).any fun x => decide (x = k)) = true
  · rw [if_pos (any_iff.trans h), if_pos h]
    refine ⟨map_fst_if kvs, ?_⟩
    clear any_iff h
    induction kvs generalizing ds with
    | nil => cases r; exact .nil
    | cons p kvs ih =>
      cases ds with
      | nil => cases r
      | cons d' ds =>
        cases r with
        | cons r1 rs =>
          simp only [List.map_cons, List.zip_cons_cons]
          by_cases hp : p.1 = k
          · simp only [hp, if_true]
            exact .cons rv (ih rs)
          · simp only [hp, if_false]
            exact .cons r1 (ih rs)
  · rw [if_neg (fun z => h (any_iff.symm.trans z)), if_neg h]
    refine ⟨by simp, ?_⟩
    rw [List.map_append]
    exact r.app (.one rv)
theorem put_ok {K : PySem.W.Frag × List Addr} {H : Hp} {m : List Addr} {S S' : Sto} {o i v : V} {co ci cv : D} {Q : Hp → Prop} (ok : Ok K T H m S) (ro : Rep K H m o co) (ri : Rep K H m i ci) (rv : Rep K H m v cv)
    (f : opPut co ci cv S = some S') (q : ∀ H' m', Ext T H m H' m' → Ok K T H' m' S' → Q H') : rPut o i v H Q := by
  unfold opPut at f
  split at f
  · split at f
    · rename_i ds es
      split at f
      · rename_i k
        split at f
        · rename_i j ej
          cases f
          cases ri
          obtain ⟨a, xs, rfl, hm, hq, rs⟩ := locL ok ro es
          refine .inl ⟨_, _, _, j, rfl, rfl, hq, by rw [rs.len]; exact ej, ?_⟩
          exact q _ m (Ext.put ok hm) (ok.putLst hm (rs.set j rv))
        · cases f
      · cases f
    · rename_i ks ds es
      split at f
      · rename_i k ek
        split at f
        · rename_i hl
          cases f
          cases ro with
          | loc hm =>
            obtain ⟨kvs, hq, e1, rs⟩ := ok.dic _ _ _ _ hm es
            subst e1
            obtain ⟨p1, p2⟩ := putK_reps (k := k) rv rs
            have ey : i = kV k := by
              unfold keyOf at ek
              split at ek <;> first | (cases ek; cases ri; rfl) | cases ek
            refine .inr ⟨_, _, rfl, .inl ⟨kvs, k, hq, ey, ?_, rfl⟩, ?_⟩
            · rw [List.length_map] at hl; exact lim_lt (Nat.le_of_lt hl)
            · exact q _ m (Ext.put ok hm) (ok.putDic hm p1 p2)
        · cases f
      · cases f
    · cases f
  · cases f
def dgSub (fo fi : DE) : DG := fun d G S => (fo G S).bind fun p => (fi G p.2).bind fun q => (opPut p.1 q.1 d q.2).map fun S' => (G, S')
theorem rgSub {I : List Nat} {t : Expr} {fo fi : DE} (h : PG X t (gSub (tD X.K T fo) (tD X.K T fi) rPut)) : PG X t (gD X.K T I (dgSub fo fi)) := by
  refine pgImp h fun v σ H Q ⟨Z, d, G, S, m, G', S', ok, en, r, f, q⟩ => ?_
  unfold dgSub at f
  obtain ⟨⟨o, S1⟩, e1, f⟩ := Option.bind_eq_some_iff.mp f
  obtain ⟨⟨i, S2⟩, e2, f⟩ := Option.bind_eq_some_iff.mp f
  obtain ⟨S3, e3, f⟩ := Option.map_eq_some_iff.mp f
  cases f
  refine tD.go ok en e1 fun vo H1 m1 x1 o1 en1 r1 => ?_
  refine tD.go o1 en1 e2 fun vi H2 m2 x2 o2 en2 r2 => ?_
  exact put_ok (T := T) o2 (r1.mono x2 o1) r2 (r.mono (x1.trans x2) ok) e3 fun H3 m3 x3 o3 => q σ H3 m3 ((x1.trans x2).trans x3) o3 (en2.mono x3 o2) Sl.refl
def dAsg (f : DE) (g : DG) : DS := fun G S => (f G S).bind fun p => (g p.1 G p.2).map fun q => (.nx, q.1, q.2)
theorem rAsg {I : List Nat} {f : DE} {g : DG} (h : PS X st (tAsg (tD X.K T f) (gD X.K T I g))) : PS X st (sD X.K T (dAsg f g)) := by
  refine psImp h fun D σ H ⟨Z, G, S, m, fl, G', S', ok, en, f, q⟩ => ?_
  unfold dAsg at f
  obtain ⟨⟨d, S1⟩, e1, f⟩ := Option.bind_eq_some_iff.mp f
  obtain ⟨⟨G2, S2⟩, e2, f⟩ := Option.map_eq_some_iff.mp f
  cases f
  refine tD.go ok en e1 fun v H1 m1 x1 o1 en1 r1 => ?_
  exact ⟨Z, d, G, S1, m1, _, _, o1, en1, r1, e2, fun σ2 H2 m2 x2 o2 en2 _ => q H2 m2 (x1.trans x2) o2 σ2 en2⟩
/-- two names at once, three names at once -/
def dPar (i j : Nat) (fa : DA) : DS := fun G S => (fa G S).bind fun p => match p.1 with
  | [x, y] => some (.nx, (G.set i (some x)).set j (some y), p.2)
  | _ => none
theorem rPar {i j : Nat} {fa : DA} (h : PS X st (tPar i j (tA X.K T fa))) : PS X st (sD X.K T (dPar i j fa)) := by
  refine psImp h fun D σ H ⟨Z, G, S, m, fl, G', S', ok, en, f, q⟩ => ?_
  unfold dPar at f
  obtain ⟨⟨ds, S1⟩, e1, f⟩ := Option.bind_eq_some_iff.mp f
  dsimp only at f
  split at f
  · rename_i x y
    cases f
    refine tA.go ok en e1 fun vs H1 m1 x1 o1 en1 r1 => ?_
    obtain ⟨v, w, rfl, r2, r3⟩ := two_inv r1
    exact ⟨_, _, rfl, q H1 m1 x1 o1 _ ((en1.set r2).set r3)⟩
  · cases f
def dWhile (t : DT) (b : DS) : Nat → DS
  | 0 => fun _ _ => none
  | n + 1 => fun G S => (t G S).bind fun p => if p.1 = true then (b G p.2).bind fun q => (match q.1 with
      | .nx => dWhile t b n q.2.1 q.2.2
      | .ct => dWhile t b n q.2.1 q.2.2
      | .bk => some (.nx, q.2)
      | .rt d => some (.rt d, q.2)) else some (.nx, G, p.2)
abbrev Src := Nat → Sto → Option (Option D)
def ItOk (K : PySem.W.Frag × List Addr) (T : List Addr) (H1 : Hp) (m1 : List Addr) (J : It) (src : Src) : Prop :=
  ∀ (E : List Addr) (i : Nat) (H : Hp) (m : List Addr) (S : Sto), (∀ a ∈ E, H1 a = none) → ExtH K.2 T H1 m1 H m → Ok (K.1, E ++ K.2) T H m S → match src i S with
    | some (some d) => J.go i H ∧ ∀ x H', J.yld i H x H' → ∃ m', Ext T H m H' m' ∧ Ok (K.1, E ++ K.2) T H' m' S ∧ Rep (K.1, E ++ K.2) H' m' x d
    | some none => J.stop i H
    | none => True
abbrev DI := Gam → Sto → Option (Src × Nat × Sto)
def iD (K : PySem.W.Frag) (T : List Addr) (f : DI) : TI := fun σ H R => ∃ (Z : List Addr) (G : Gam) (S : Sto) (m : List Addr) (src : Src) (n : Nat) (S' : Sto), Ok (K, Z) T H m S ∧ EnvOk (K, Z) H m σ G ∧ f G S = some (src, n, S') ∧
  ∀ J H' m', Ext T H m H' m' → Ok (K, Z) T H' m' S' → ItOk (K, Z) T H' m' J src → R J H'
theorem piImp {tg it : Expr} {w w' : TI} (h : PI X tg it w) (k : ∀ σ H R, w' σ H R → w σ H R) : PI X tg it w' :=
  ⟨fun pins s σ H R I q => h.run pins s σ H R I (k σ H R q)⟩
def dLoop (src : Src) (g : DG) (b : DS) : Nat → Nat → DS
  | 0, _ => fun _ _ => none
  | n + 1, i => fun G S => (src i S).bind fun o => match o with
    | none => some (.nx, G, S)
    | some d => (g d G S).bind fun p => (b p.1 p.2).bind fun q => match q.1 with
      | .nx => dLoop src g b n (i + 1) q.2.1 q.2.2
      | .ct => dLoop src g b n (i + 1) q.2.1 q.2.2
      | .bk => some (.nx, q.2)
      | .rt d => some (.rt d, q.2)
def dFor (w : DI) (g : DG) (b : DS) : DS := fun G S => (w G S).bind fun p => dLoop p.1 g b p.2.1 0 G p.2.2
theorem rFor {I : List Nat} {w : DI} {g : DG} {b : DS} (h : PS X st (tFor (iD X.K T w) (gD X.K T I g) (sD X.K T b))) : PS X st (sD X.K T (dFor w g b)) := by
  refine psImp h fun D σ H ⟨Z, G, S, m, fl, G', S', ok, en, f, q⟩ => ?_
  unfold dFor at f
  obtain ⟨⟨src, n, S0⟩, e0, f⟩ := Option.bind_eq_some_iff.mp f
  refine ⟨Z, G, S, m, src, n, S0, ok, en, e0, fun J H0 m0 x0 o0 it => ?_⟩
  refine ⟨fun i k σ H => ∃ (G : Gam) (S : Sto) (m : List Addr), Ext T H0 m0 H m ∧ Ok (X.K, Z) T H m S ∧ EnvOk (X.K, Z) H m σ G ∧ dLoop src g b k i G S = some (fl, G', S') ∧ ∀ H' m', Ext T H m H' m' → Ok (X.K, Z) T H' m' S' → Fin1 (X.K, Z) D fl G' H' m',
    ⟨n, G, S0, m0, Ext.refl, o0, en.mono x0 ok, f, fun H' m' x o => q H' m' (x0.trans x) o⟩, ?_⟩
  rintro i k σ1 H1 ⟨G1, S1, m1, x1, o1, en1, f1, q1⟩
  cases k with
  | zero => cases f1
  | succ k =>
    unfold dLoop at f1
    obtain ⟨o, e1, f2⟩ := Option.bind_eq_some_iff.mp f1
    have t := it [] i H1 m1 S1 (fun a h => by cases h) x1.h o1
    rw [e1] at t
    cases o with
    | none =>
      cases f2
      exact .inl ⟨t, q1 H1 m1 Ext.refl o1 σ1 en1⟩
    | some d =>
      obtain ⟨⟨G2, S2⟩, e2, f3⟩ := Option.bind_eq_some_iff.mp f2
      obtain ⟨⟨fl3, G3, S3⟩, e3, f4⟩ := Option.bind_eq_some_iff.mp f3
      refine .inr ⟨t.1, fun σ' H' => ∃ (G : Gam) (S : Sto) (m : List Addr), Ext T H0 m0 H' m ∧ Ok (X.K, Z) T H' m S ∧ EnvOk (X.K, Z) H' m σ' G ∧ dLoop src g b k (i + 1) G S = some (fl, G', S') ∧ ∀ H2 m2, Ext T H' m H2 m2 → Ok (X.K, Z) T H2 m2 S' → Fin1 (X.K, Z) D fl G' H2 m2,
        fun σ' H' w => ⟨k, Nat.lt_succ_self k, w⟩, fun x H' y => ?_⟩
      obtain ⟨m', x', o', r'⟩ := t.2 x H' y
      refine ⟨Z, d, G1, S1, m', G2, S2, o', en1.mono x' o1, r', e2, fun σ2 H2 m2 x2 o2 en2 _ => ?_⟩
      refine sD.go o2 en2 e3 fun H3 m3 x3 o3 => ?_
      have xx := (x'.trans x2).trans x3
      cases fl3 with
      | nx => exact fun σ3 en3 => ⟨G3, S3, m3, x1.trans xx, o3, en3, f4, fun H4 m4 x4 o4 => q1 H4 m4 (xx.trans x4) o4⟩
      | ct => exact fun σ3 en3 => ⟨G3, S3, m3, x1.trans xx, o3, en3, f4, fun H4 m4 x4 o4 => q1 H4 m4 (xx.trans x4) o4⟩
      | bk =>
        cases f4
        exact fun σ3 en3 => q1 H3 m3 xx o3 σ3 en3
      | rt d' =>
        cases f4
        exact fun v r => q1 H3 m3 xx o3 v r
/-- items that stand still -/
def fixS (ds : List D) : Src := fun i _ => some ds[i]?
/-- a list cell, as it stands at each turn -/
def celS (n : Nat) : Src := fun i S => match S[n]? with
  | some (.lst ds) => some ds[i]?
  | _ => none
def srcD (S : Sto) (d : D) : Option (Src × Nat) := match d with
  | .loc n => match S[n]? with
    | some (.lst ds) => some (celS n, ds.length + 1)
    | _ => none
  | d => (seqD S d).map fun ds => (fixS ds, ds.length + 1)
def dSeqI (f : DE) : DI := fun G S => (f G S).bind fun p => (srcD p.2 p.1).map fun q => (q.1, q.2, p.2)
def isTupD : D → Bool
  | .tup _ => true
  | _ => false
theorem itemsAt {K : PySem.W.Frag × List Addr} {H' : Hp} {m' : List Addr} {xs : List V} {ds : List D} (i : Nat) (rs : Reps K H' m' xs ds) : match ds[i]? with
    | some d => ∃ x, xs[i]? = some x ∧ Rep K H' m' x d
    | none => xs.length ≤ i := by
  cases e : ds[i]? with
  | none =>
    have := List.getElem?_eq_none_iff.mp e
    show xs.length ≤ i
    rw [rs.len]; exact this
  | some d => exact rs.get e
theorem Reps.later {K : PySem.W.Frag × List Addr} {H H' : Hp} {m m' : List Addr} {S : Sto} {xs : List V} {ds : List D} {E : List Addr} (hE : ∀ a ∈ E, H a = none) (x : ExtH K.2 T H m H' m') (ok : Ok K T H m S) (r : Reps K H m xs ds) : Reps (K.1, E ++ K.2) H' m' xs ds :=
  Reps.monoH (K := (K.1, E ++ K.2)) (fun a ha => List.mem_append_right _ ha) x ok (Reps.hide (K := K.1) (Z := K.2) hE r)
theorem srcT_ok {K : PySem.W.Frag × List Addr} {H : Hp} {m : List Addr} {S : Sto} {v : V} {ds : List D} (ok : Ok K T H m S) (r : Rep K H m v (.tup ds)) :
    ∃ a, v = .ref a ∧ (∃ xs, SqT K.1 H a xs) ∧ ItOk K T H m (Itt K.1 a) (fixS ds) := by
  cases r with
  | tup h rs =>
    refine ⟨_, rfl, ⟨_, h⟩, fun E i H' m' S' hE x' o' => ?_⟩
    have t := itemsAt i (Reps.later hE x' ok rs)
    unfold fixS
    revert t
    cases ds[i]? with
    | none => intro t; exact ⟨_, x'.rdT ok h, t⟩
    | some d =>
      rintro ⟨x, t1, t2⟩
      refine ⟨⟨_, x, x'.rdT ok h, t1⟩, fun y H2 hy => ?_⟩
      obtain ⟨rfl, hy⟩ := hy
      have e := hy _ (x'.rdT ok h)
      rw [t1] at e
      cases e
      exact ⟨m', Ext.refl, o', t2⟩
theorem srcL_ok {K : PySem.W.Frag × List Addr} {H : Hp} {m : List Addr} {S : Sto} {v : V} {d : D} {src : Src} {n : Nat} (ok : Ok K T H m S) (r : Rep K H m v d) (hn : isTupD d = false) (e : srcD S d = some (src, n)) :
    ∃ a, v = .ref a ∧ (∃ xs, SqL K.1 H a xs) ∧ ItOk K T H m (Itl K.1 a) src := by
  have listCase : ∀ (a : Addr) (src : Src), (∀ (E : List Addr) i H' m' S', (∀ a ∈ E, H a = none) → ExtH K.2 T H m H' m' → Ok (K.1, E ++ K.2) T H' m' S' → match src i S' with
      | some (some d) => ∃ xs x, SqL K.1 H' a xs ∧ xs[i]? = some x ∧ Rep (K.1, E ++ K.2) H' m' x d
      | some none => ∃ xs, SqL K.1 H' a xs ∧ xs.length ≤ i
      | none => True) → ItOk K T H m (Itl K.1 a) src := by
    intro a src h E i H' m' S' hE x' o'
    have t := h E i H' m' S' hE x' o'
    revert t
    cases src i S' with
    | none => intro _; trivial
    | some o =>
      cases o with
      | none => intro t; exact t
      | some d =>
        rintro ⟨xs, x, t1, t2, t3⟩
        refine ⟨⟨xs, x, t1, t2⟩, fun y H2 hy => ?_⟩
        obtain ⟨rfl, hy⟩ := hy
        have e := hy xs t1
        rw [t2] at e
        cases e
        exact ⟨m', Ext.refl, o', t3⟩
  have fixCase : ∀ (a : Addr) (ds : List D) (xs : List V), Reps K H m xs ds → (∀ H' m', ExtH K.2 T H m H' m' → SqL K.1 H' a xs) → ItOk K T H m (Itl K.1 a) (fixS ds) := by
    intro a ds xs rs hq
    refine listCase a _ fun E i H' m' S' hE x' o' => ?_
    have t := itemsAt i (Reps.later hE x' ok rs)
    have q := hq H' m' x'
    unfold fixS
    revert t
    cases ds[i]? with
    | none => intro t; exact ⟨_, q, t⟩
    | some d => rintro ⟨x, t1, t2⟩; exact ⟨_, x, q, t1, t2⟩
  cases d with
  | tup xs => cases hn
  | lst xs =>
    cases e
    cases r with
    | lst h n z rs => exact ⟨_, rfl, ⟨_, SqL.of h⟩, fixCase _ _ _ rs fun H' m' x' => SqL.of (x'.lst ok h n z).1⟩
  | scr xs =>
    cases e
    cases r with
    | scr h n z rs => exact ⟨_, rfl, ⟨_, .inl h⟩, fixCase _ _ _ rs fun H' m' x' => .inl (x'.rd ok (by intro ps z; cases z) h n (.inr z)).1⟩
    | scrK h rs =>
      have hk : ∀ H', SqL K.1 H' _ _ := fun H' => by
        rcases h with (h | ⟨o, h⟩) | h
        · cases h
        · cases h
        · exact .inr h
      exact ⟨_, rfl, ⟨_, hk H⟩, fixCase _ _ _ rs fun H' m' x' => hk H'⟩
  | loc n' =>
    unfold srcD at e
    simp only at e
    split at e
    · rename_i ds es
      cases e
      cases r with
      | loc hm =>
        rename_i a
        obtain ⟨xs, hq, rs⟩ := ok.lst _ _ _ hm es
        refine ⟨a, rfl, ⟨xs, SqL.of hq⟩, listCase _ _ fun E i H' m' S' hE x' o' => ?_⟩
        have key : match celS n' i S' with
            | some o => ∃ ds' ys, H' a = some (.lst ys) ∧ Reps (K.1, E ++ K.2) H' m' ys ds' ∧ o = ds'[i]?
            | none => True := by
          unfold celS
          split
          · rename_i o e2
            split at e2
            · rename_i ds' es'
              obtain ⟨ys, hq', rs'⟩ := o'.lst _ _ _ (x'.at hm) es'
              cases e2
              exact ⟨ds', ys, hq', rs', rfl⟩
            · cases e2
          · trivial
        revert key
        cases celS n' i S' with
        | none => intro _; trivial
        | some o =>
          rintro ⟨ds', ys, hq', rs', rfl⟩
          have t := itemsAt i rs'
          revert t
          cases ds'[i]? with
          | none => intro t; exact ⟨ys, SqL.of hq', t⟩
          | some d => rintro ⟨x, t1, t2⟩; exact ⟨ys, x, SqL.of hq', t1, t2⟩
    · cases e
  | non => cases e
  | bl _ => cases e
  | int _ => cases e
  | str _ => cases e
  | dic _ _ => cases e
theorem piOr {tg it : Expr} {w w' : TI} (h : PI X tg it w) (h' : PI X tg it w') : PI X tg it (fun σ H R => w σ H R ∨ w' σ H R) :=
  ⟨fun pins s σ H R I q => q.elim (h.run pins s σ H R I) (h'.run pins s σ H R I)⟩
/-- over a list or a tuple -/
theorem rSeqI {tg : Expr} {f : DE} (h : PE X e (tD X.K T f)) : PI X tg e (iD X.K T (dSeqI f)) := by
  refine piImp (piOr (pi_list h) (pi_tup h)) fun σ H R ⟨Z, G, S, m, src, n, S', ok, en, f, q⟩ => ?_
  unfold dSeqI at f
  obtain ⟨⟨d, S1⟩, e1, f⟩ := Option.bind_eq_some_iff.mp f
  obtain ⟨⟨src', n'⟩, e2, f⟩ := Option.map_eq_some_iff.mp f
  cases f
  cases ht : isTupD d with
  | false =>
    refine .inl (tD.go ok en e1 fun v H1 m1 x1 o1 en1 r1 => ?_)
    obtain ⟨a, rfl, h1, h2⟩ := srcL_ok o1 r1 ht e2
    exact ⟨a, rfl, h1, q _ H1 m1 x1 o1 h2⟩
  | true =>
    refine .inr (tD.go ok en e1 fun v H1 m1 x1 o1 en1 r1 => ?_)
    cases d with
    | tup ds =>
      cases e2
      obtain ⟨a, rfl, h1, h2⟩ := srcT_ok o1 r1
      exact ⟨a, rfl, h1, q _ H1 m1 x1 o1 h2⟩
    | _ => cases ht
/-- over a range -/
def rngD (lo hi : Int) : List D := (List.range (hi - lo).toNat).map fun (i : Nat) => D.int (lo + (i : Int))
def dRng (fa : DA) : DI := fun G S => (fa G S).bind fun p => match p.1 with
  | [.int j] => if -1000000000 ≤ j ∧ j ≤ 1000000000 then some (fixS (rngD 0 j), (rngD 0 j).length + 1, p.2) else none
  | [.int i, .int j] => if (-1000000000 ≤ i ∧ i ≤ 1000000000) ∧ (-1000000000 ≤ j ∧ j ≤ 1000000000) then some (fixS (rngD i j), (rngD i j).length + 1, p.2) else none
  | _ => none
theorem rng_ok {K : PySem.W.Frag × List Addr} {H : Hp} {m : List Addr} (lo hi : Int) : ItOk K T H m (Itr lo (hi - lo).toNat) (fixS (rngD lo hi)) := by
  intro E i H' m' S' hE x' o'
  unfold fixS rngD
  rw [List.getElem?_map]
  by_cases h : i < (hi - lo).toNat
  · rw [List.getElem?_range h]
    refine ⟨h, fun x H2 hy => ?_⟩
    obtain ⟨rfl, rfl⟩ := hy
    exact ⟨m', Ext.refl, o', .int _⟩
  · rw [List.getElem?_eq_none (by simpa using h)]
    show (hi - lo).toNat ≤ i
    omega
def one1 : List D → Bool
  | [_] => true
  | _ => false
theorem rRngA {tg : Expr} {fa : DA} (h : PI X tg e (iRng1 (tA X.K T fa))) : PI X tg e (iD X.K T (fun G S => (fa G S).bind fun p => if one1 p.1 = true then dRng fa G S else none)) := by
  refine piImp h fun σ H R ⟨Z, G, S, m, src, n, S', ok, en, f, q⟩ => ?_
  obtain ⟨⟨ds, S1⟩, e1, f⟩ := Option.bind_eq_some_iff.mp f
  split at f
  · rename_i h1
    unfold dRng at f
    rw [e1] at f
    simp only [Option.bind_some] at f
    refine tA.go ok en e1 fun vs H1 m1 x1 o1 en1 r1 => ?_
    split at f
    · split at f
      · rename_i j hj
        cases f
        obtain ⟨v, rfl, rv⟩ := one_inv r1
        cases rv
        refine ⟨j, rfl, by omega, by omega, ?_⟩
        have t := rng_ok (T := T) (K := (X.K, Z)) (H := H1) (m := m1) 0 j
        rw [Int.sub_zero] at t
        exact q _ H1 m1 x1 o1 t
      · cases f
    · cases h1
    · cases f
  · cases f
def two2 : List D → Bool
  | [_, _] => true
  | _ => false
theorem rRngB {tg : Expr} {fa : DA} (h : PI X tg e (iRng2 (tA X.K T fa))) : PI X tg e (iD X.K T (fun G S => (fa G S).bind fun p => if two2 p.1 = true then dRng fa G S else none)) := by
  refine piImp h fun σ H R ⟨Z, G, S, m, src, n, S', ok, en, f, q⟩ => ?_
  obtain ⟨⟨ds, S1⟩, e1, f⟩ := Option.bind_eq_some_iff.mp f
  split at f
  · rename_i h1
    unfold dRng at f
    rw [e1] at f
    simp only [Option.bind_some] at f
    refine tA.go ok en e1 fun vs H1 m1 x1 o1 en1 r1 => ?_
    split at f
    · cases h1
    · split at f
      · rename_i i j hj
        cases f
        obtain ⟨v, w, rfl, rv, rw'⟩ := two_inv r1
        cases rv; cases rw'
        exact ⟨i, j, rfl, by omega, q _ H1 m1 x1 o1 (rng_ok i j)⟩
      · cases f
    · cases f
  · cases f
end
end Vw
set_option maxRecDepth 100000
set_option maxHeartbeats 4000000
namespace Vw
open PySem PySem.Spec L2
def wipeG (G : Gam) : List Nat → Gam
  | [] => G
  | v :: vs => (wipeG G vs).set v none
theorem EnvOk.wipe {K : PySem.W.Frag × List Addr} {H : Hp} {m : List Addr} {σ : L2.St} {G : Gam} (e : EnvOk K H m σ G) : ∀ vs : List Nat, EnvOk K H m (L2.wipe σ vs) (wipeG G vs)
  | [] => e
  | v :: vs => by
    have ih := e.wipe vs
    unfold L2.wipe wipeG
    refine ⟨by simp [ih.len], fun i d h => ?_⟩
    by_cases hi : v = i
    · subst hi
      by_cases hl : v < (wipeG G vs).length
      · rw [List.getElem?_set_self hl] at h; cases h
      · rw [List.getElem?_eq_none (by simpa using hl)] at h; cases h
    · rw [List.getElem?_set_ne hi] at h
      obtain ⟨w, a, r⟩ := ih.at_ i d h
      exact ⟨w, by rw [List.getElem?_set_ne hi]; exact a, r⟩
theorem wipe_out' {σ : L2.St} {i : Nat} : ∀ {vs : List Nat}, i ∉ vs → (L2.wipe σ vs)[i]? = σ[i]?
  | [], _ => rfl
  | v :: vs, h => by
    unfold L2.wipe
    rw [List.getElem?_set_ne (fun z => h (by rw [z]; exact List.mem_cons_self))]
    exact wipe_out' fun z => h (List.mem_cons_of_mem _ z)
theorem wipe_in {σ : L2.St} {i : Nat} : ∀ {vs : List Nat}, i ∈ vs → i < σ.length → (L2.wipe σ vs)[i]? = some none
  | [], h, _ => by cases h
  | v :: vs, h, hl => by
    unfold L2.wipe
    by_cases e : v = i
    · subst e
      exact List.getElem?_set_self (by rw [L2.wipe_length]; exact hl)
    · rw [List.getElem?_set_ne e]
      rcases List.mem_cons.mp h with h | h
      · exact absurd h.symm e
      · exact wipe_in h hl
theorem wipe_of_sl {σ σ2 : L2.St} {vs : List Nat} (h : Sl vs (L2.wipe σ vs) σ2) : L2.wipe σ2 vs = L2.wipe σ vs := by
  have hl : σ2.length = σ.length := by rw [h.1, L2.wipe_length]
  apply List.ext_getElem?
  intro i
  by_cases hi : i ∈ vs
  · by_cases hlt : i < σ.length
    · rw [wipe_in hi hlt, wipe_in hi (by rw [hl]; exact hlt)]
    · have h1 : (L2.wipe σ2 vs).length ≤ i := by rw [L2.wipe_length]; omega
      have h2 : (L2.wipe σ vs).length ≤ i := by rw [L2.wipe_length]; omega
      rw [List.getElem?_eq_none h1, List.getElem?_eq_none h2]
  · rw [wipe_out' hi, h.2 i hi]
/-- the turns of a comprehension: each begins with the same names -/
def dLcLoop (src : Src) (g : DG) (t : DT) (f : DE) (G : Gam) : Nat → Nat → Sto → List D → Option (List D × Sto)
  | 0, _, _, _ => none
  | n + 1, i, S, acc => (src i S).bind fun o => match o with
    | none => some (acc, S)
    | some d => (g d G S).bind fun p => (t p.1 p.2).bind fun b => if b.1 = true
        then (f p.1 b.2).bind fun y => dLcLoop src g t f G n (i + 1) y.2 (acc ++ [y.1])
        else dLcLoop src g t f G n (i + 1) b.2 acc
theorem dLcLoop_len {src : Src} {g : DG} {t : DT} {f : DE} {G : Gam} : ∀ (n i : Nat) (S : Sto) (acc ds : List D) (S' : Sto), dLcLoop src g t f G n i S acc = some (ds, S') → acc.length ≤ ds.length
  | 0, _, _, _, _, _, h => by cases h
  | n + 1, i, S, acc, ds, S', h => by
    unfold dLcLoop at h
    obtain ⟨o, e1, h⟩ := Option.bind_eq_some_iff.mp h
    cases o with
    | none => cases h; exact Nat.le_refl _
    | some d =>
      obtain ⟨p, e2, h⟩ := Option.bind_eq_some_iff.mp h
      obtain ⟨b, e3, h⟩ := Option.bind_eq_some_iff.mp h
      split at h
      · obtain ⟨y, e4, h⟩ := Option.bind_eq_some_iff.mp h
        have := dLcLoop_len n _ _ _ _ _ h
        rw [List.length_append] at this
        exact Nat.le_trans (Nat.le_add_right _ _) this
      · exact dLcLoop_len n _ _ _ _ _ h
def dComp (own : List Nat) (w : DI) (g : DG) (t : DT) (f : DE) : DA := fun G S => (w G S).bind fun p => dLcLoop p.1 g t f (wipeG G own) p.2.1 0 p.2.2 []
def dLc (c : Bool) (own : List Nat) (w : DI) (g : DG) (t : DT) (f : DE) : DE := fun G S => (dComp own w g t f G S).bind fun p => okLst c p.1 p.2
theorem openLc {K : PySem.W.Frag} {T : List Addr} {c : Bool} {own : List Nat} {w : DI} {g : DG} {t : DT} {f : DE} : ∀ σ H Q, tD K T (dLc c own w g t f) σ H Q → tLc (iD K T w) (gD K T own g) (tB K T t) (tD K T f) own σ H Q := by
  rintro σ H Q ⟨Z, G, S, m, d, S', ok, en, e, q⟩
  unfold dLc dComp at e
  obtain ⟨⟨ds, S2⟩, e, eL⟩ := Option.bind_eq_some_iff.mp e
  obtain ⟨⟨src, n, S1⟩, e1, e⟩ := Option.bind_eq_some_iff.mp e
  refine ⟨Z, G, S, m, src, n, S1, ok, en, e1, fun J H1 m1 x1 o1 it => ?_⟩
  intro Dp hD
  have hE : ∀ a ∈ [Dp], H1 a = none := fun a ha => by rw [List.mem_singleton.mp ha]; exact hD
  have hZ : Dp ∉ Z := (o1.free hD).2.2
  refine ⟨fun i k H => ∃ (S : Sto) (m : List Addr) (acc : List D) (xs : List V), Ext T H1 m1 H m ∧ Ok (K, [Dp] ++ Z) T H m S ∧ EnvOk (K, [Dp] ++ Z) H m (L2.wipe σ own) (wipeG G own) ∧ H Dp = some (.lst xs) ∧ Reps (K, [Dp] ++ Z) H m xs acc ∧
    dLcLoop src g t f (wipeG G own) k i S acc = some (ds, S2),
    ⟨n, S1, m1, [], [], Ext.laid o1 hD, o1.aside hD, ((en.mono x1 ok).wipe own).aside hD, upd_same, .nil, e⟩, ?_⟩
  rintro i k H2 ⟨S3, m2, acc, xs, x2, o2, en2, hx, rs, e2⟩
  cases k with
  | zero => cases e2
  | succ k =>
    unfold dLcLoop at e2
    obtain ⟨o, e3, e4⟩ := Option.bind_eq_some_iff.mp e2
    have tt := it [Dp] i H2 m2 S3 hE x2.h o2
    rw [e3] at tt
    cases o with
    | none =>
      cases e4
      refine .inl ⟨tt, ?_⟩
      -- the list is done: it is known from now on
      have ob := o2.bare
      have nd := (o2.hid Dp (List.mem_append_left _ (List.mem_singleton.mpr rfl))).1
      unfold okLst at eL
      split at eL
      · split at eL
        · cases eL
          have xc : Ext T H m H2 (m2 ++ [Dp]) := by
            have x3 := x1.trans x2
            refine ⟨?_, fun a u ha hn ht => x3.old a u ha hn ht, fun a ha hn ht => ?_⟩
            · obtain ⟨r, er⟩ := x3.pre
              exact ⟨r ++ [Dp], by rw [er, List.append_assoc]⟩
            · rcases List.mem_append.mp ha with ha | ha
              · exact x3.new a ha hn ht
              · rw [List.mem_singleton.mp ha] at hn ht ⊢
                cases qq : H Dp with
                | none => rfl
                | some u => rw [x1.old _ u qq hn ht] at hD; cases hD
          have x5 : Ext T H2 m2 H2 (m2 ++ [Dp]) → True := fun _ => trivial
          -- as if it were laid now: by the heap without it
          refine q _ H2 (m2 ++ [Dp]) xc ?_ (.loc (by rw [← ob.len]; simp))
          exact o2.nowCell hx rs nd
        · cases eL
          exact q _ H2 m2 (x1.trans x2) ob (.lst hx nd hZ rs.bare)
      · cases eL
    | some dv =>
      obtain ⟨⟨G4, S4⟩, e5, e6⟩ := Option.bind_eq_some_iff.mp e4
      obtain ⟨⟨b, S5⟩, e7, e8⟩ := Option.bind_eq_some_iff.mp e6
      refine .inr ⟨tt.1, fun H' => ∃ (S : Sto) (m : List Addr) (acc : List D) (xs : List V), Ext T H1 m1 H' m ∧ Ok (K, [Dp] ++ Z) T H' m S ∧ EnvOk (K, [Dp] ++ Z) H' m (L2.wipe σ own) (wipeG G own) ∧ H' Dp = some (.lst xs) ∧ Reps (K, [Dp] ++ Z) H' m xs acc ∧
        dLcLoop src g t f (wipeG G own) k (i + 1) S acc = some (ds, S2), fun H' w => ⟨k, Nat.lt_succ_self k, w⟩, fun x H' y => ?_⟩
      obtain ⟨m', x', o', r'⟩ := tt.2 x H' y
      have nd2 : ∀ {m3 : List Addr} {H3 : Hp}, Ext T H2 m2 H3 m3 → H3 Dp = some (.lst xs) := fun {m3 H3} x3 => by
        have h1 := (o2.hid Dp (List.mem_append_left _ (List.mem_singleton.mpr rfl))).1
        exact (x3.lst o2 hx h1).1
      refine ⟨[Dp] ++ Z, dv, _, S3, m', G4, S4, o', en2.mono x' o2, r', e5, fun σ2 H4 m4 x4 o4 en4 sl4 => ⟨wipe_of_sl sl4, ?_⟩⟩
      refine tB.go o4 en4 e7 fun H5 m5 x5 o5 en5 => ?_
      have x6 := (x'.trans x4).trans x5
      cases b with
      | false =>
        rw [if_neg Bool.false_ne_true]
        simp only [Bool.false_eq_true, if_false] at e8
        exact ⟨S5, m5, acc, xs, x2.trans x6, o5, en2.mono x6 o2, nd2 x6, rs.mono x6 o2, e8⟩
      | true =>
        rw [if_pos rfl]
        simp only [if_true] at e8
        obtain ⟨⟨yv, S6⟩, e9, e10⟩ := Option.bind_eq_some_iff.mp e8
        refine tD.go o5 en5 e9 fun v H7 m7 x7 o7 en7 r7 => ?_
        have x8 := x6.trans x7
        have hx7 := nd2 x8
        have rs7 := rs.mono x8 o2
        have nd7 := (o7.hid Dp (List.mem_append_left _ (List.mem_singleton.mpr rfl))).1
        refine ⟨xs, hx7, ?_, ?_⟩
        · have h1 := dLcLoop_len _ _ _ _ _ _ e10
          have h2 := okLst_len eL
          rw [List.length_append] at h1
          rw [rs.len]
          exact lim_lt (Nat.le_trans (Nat.le_trans (Nat.le_add_right _ _) h1) h2)
        · refine ⟨S6, m7, acc ++ [yv], xs ++ [v], ?_, o7.grow nd7 hx7, (en2.mono x8 o2).grow nd7 hx7, upd_same, ?_, e10⟩
          · have x9 := x2.trans x8
            refine ⟨x9.pre, fun a u ha hn ht => ?_, x9.new⟩
            have ne : a ≠ Dp := fun z => by rw [z, hD] at ha; cases ha
            rw [upd_ne ne]
            exact x9.old a u ha hn ht
          · exact (rs7.app (.one r7)).grow hx7
end Vw
set_option maxRecDepth 100000
set_option maxHeartbeats 4000000
namespace Vw
open PySem PySem.Spec PyProof.Rows L2 GenW
/-- what a turn hands out: data -/
abbrev DEm := Gam → Sto → List D → Option (Gam × Sto × List D)
/-- what a turn hands out, by what is wanted behind it -/
abbrev TEm := (List V → L2.St → Hp → Prop) → List V → L2.St → Hp → Prop
structure GEm (X : Cx) (em : Sem Unit) (f : TEm) : Prop where
  run : ∀ (A : Around) (S : Addr) (ip : List (Addr × Obj)) (R : GenEnd) (n : Nat) (ys : List V) (s₀ : Shared) (c : Code) (fs : List Frame) (K : Unit → Sem PySem.Fin) (J : Value → Sem PySem.Fin) (gd : Bool → Bool) (lv : List Value → List Value) (s : Shared) (σ : L2.St) (H : Hp) (D : List V → L2.St → Hp → Prop),
    GC X S ip A c fs gd → n + ys.length = sizeLine → (∀ (n : Nat) (ys : List V) (s₀ s : Shared) (σ : L2.St) (H : Hp), n + ys.length = sizeLine → GI X S ip ys σ H s → D ys σ H → Seg (model X.prog X.w) A R (GY X S) n s₀ c (K ()) fs s) → GI X S ip ys σ H s → f D ys σ H →
    Seg (model X.prog X.w) A R (GY X S) n s₀ c (em.wrap K J gd lv) fs s
def emD (K : PySem.W.Frag) (T : List Addr) (I : List Nat) (f : DEm) : TEm := fun Q ys σ H => ∃ (Z : List Addr) (G : Gam) (S : Sto) (m : List Addr) (ds : List D) (G' : Gam) (S' : Sto) (ds' : List D), Ok (K, Z) T H m S ∧ EnvOk (K, Z) H m σ G ∧ Reps (K, Z) H m ys ds ∧ f G S ds = some (G', S', ds') ∧
  ∀ ys' σ' H' m', Ext T H m H' m' → Ok (K, Z) T H' m' S' → EnvOk (K, Z) H' m' σ' G' → Sl I σ σ' → Reps (K, Z) H' m' ys' ds' → Q ys' σ' H'
/-- the last clause: the element is handed out -/
def emElt (f : DE) : DEm := fun G S acc => if acc.length < lim then (f G S).bind fun y => some (G, y.2, acc ++ [y.1]) else none
/-- the element's words -/
def eltSem (elt : Expr) (env : Env) : Sem Unit := do
  let v ← eval elt env
  standAt elt.pos
  let _ ← yieldOut env v
theorem rEmElt {X : Cx} {T : List Addr} {I : List Nat} {elt : Expr} {f : DE} (hx : X.xe = fun _ _ => False) (hco : X.env.scope.isCoroutine = false) (h : PE X elt (tD X.K T f)) : GEm X (eltSem elt X.env) (emD X.K T I (emElt f)) := by
  refine ⟨fun A S ip R n ys s₀ c fs K J gd lv s σ H D g hn k hI ht => ?_⟩
  obtain ⟨Z, G, S1, m, ds, G', S', ds', ok, en, rs, e, q⟩ := ht
  unfold emElt at e
  split at e
  case isFalse => cases e
  rename_i hlt
  obtain ⟨⟨d, S2⟩, e1, e2⟩ := Option.bind_eq_some_iff.mp e
  obtain ⟨rfl, rfl, rfl⟩ : G = G' ∧ S2 = S' ∧ ds ++ [d] = ds' := by
    cases e2; exact ⟨rfl, rfl, rfl⟩
  have hyl : ys.length < sizeLine := by rw [rs.len]; exact lim_lt (Nat.le_of_lt hlt)
  obtain ⟨n, rfl⟩ : ∃ m, n = m + 1 := ⟨n - 1, by omega⟩
  obtain ⟨acc, cc, r, I0⟩ := hI
  have hy : ∀ v, yieldOut X.env v = yieldValue v := fun v => by simp only [yieldOut, hco, Bool.false_eq_true, if_false]
  unfold eltSem
  simp only [hy]
  refine seg_bind_wrap ?_
  rw [g.over]
  refine wpAny_mono (h.run _ s σ H (fun v H1 => ∃ m1, Ext T H m H1 m1 ∧ Ok (X.K, Z) T H1 m1 S2 ∧ EnvOk (X.K, Z) H1 m1 σ G ∧ Rep (X.K, Z) H1 m1 v d) I0 ⟨Z, G, S1, m, d, S2, ok, en, e1, fun v H1 m1 x1 o1 r1 => ⟨m1, x1, o1, en.mono x1 ok, r1⟩⟩) (fun v s' hv => ?_) fun x s' hxe => by rw [hx] at hxe; exact hxe.elim
  obtain ⟨x, H1, I1, rv, m1, x1, o1, en1, r1⟩ := hv
  have G1 : GI X S ip ys σ H1 s' := ⟨acc, cc, r, I1⟩
  refine seg_at ?_
  show Seg _ A R (GY X S) (n + 1) s₀ c ((yieldValue v >>= fun _ => pure ()).wrap K J gd lv) fs s'
  rw [Sem.bind_eq_wrap', Sem.wrap_wrap]
  refine seg_yield g.split g.gd g.guard ?_
  refine ⟨ys, x, ip, σ, H1, hn, rv, G1, fun s'' z => ?_⟩
  refine k n (ys ++ [x]) s'' s'' σ H1 ?_ (G1.woken g.pn g.ip g.apart rv z) (q _ σ H1 m1 x1 o1 en1 Sl.refl ((rs.mono x1 ok).app (.one r1)))
  rw [List.length_append, List.length_singleton]; omega
def dGLoop (src : Src) (g : DG) (t : DT) (em : DEm) : Nat → Nat → DEm
  | 0, _ => fun _ _ _ => none
  | n + 1, i => fun G S acc => (src i S).bind fun o => match o with
    | none => some (G, S, acc)
    | some d => (g d G S).bind fun p => (t p.1 p.2).bind fun b => if b.1 = true
        then (em p.1 b.2 acc).bind fun r => dGLoop src g t em n (i + 1) r.1 r.2.1 r.2.2
        else dGLoop src g t em n (i + 1) p.1 b.2 acc
/-- one of the generator's own iterators: its objects -/
def FpG (X : Cx) (S : Addr) (ip : List (Addr × Obj)) (b : Addr) : Prop :=
  b ≠ X.env.locals ∧ b ∉ X.fs ∧ (b ∈ X.ex ∨ X.s_0.heap.objs.size ≤ b) ∧ (∀ x c, X.env.cells.lookup x = some c → c ≠ b) ∧ (∀ p ∈ X.pn ++ ip, p.1 ≠ b) ∧ S ≠ b
theorem FpG.ok {X : Cx} {S : Addr} {ip : List (Addr × Obj)} {b : Addr} {H : Hp} {o : Obj} (h : FpG X S ip b) (n : H b = none) : FpOk X ((S, o) :: ip) H b := by
  obtain ⟨h1, h2, h3, h4, h5, h6⟩ := h
  refine ⟨n, h1, h2, h3, h4, fun p hp => ?_⟩
  rcases List.mem_append.mp hp with hp | hp
  · exact h5 p (List.mem_append_left _ hp)
  · rcases List.mem_cons.mp hp with hp | hp
    · rw [hp]; exact h6
    · exact h5 p (List.mem_append_right _ hp)
theorem gx_loop {X : Cx} {e tg : Expr} {j : Nat} {ifs : List Expr} {ipos : Pos} {em : Sem Unit} {J0 : Value → Sem Unit} {T : List Addr} {I : List Nat} {src : Src} {g : DG} {t : DT} {emf : DEm} {it : Addr} {fp : List Addr} {tn : Nat → Heap → Prop} {J : It} {H1 : Hp} {m1 : List Addr}
    (hturn : compTurn e j (.ref it) .none X.env = (do
      standAt ipos
      match ← pyNext (.ref it) with
      | none => pure (.done .next)
      | some v =>
        letOwnedTupleGo tg (.ref it) v
        assign tg X.env v
        let mut ok := true
        for c in ifs do
          if ok then ok ← isTrue c X.env (eval c X.env)
        if ok then
          em
        again (.compLoop e j (.ref it) .none X.env)))
    (hden : (model X.prog X.w).den (.compLoop e j (.ref it) .none X.env) = (compTurn e j (.ref it) .none X.env).onRaise J0) (hq : (Code.compLoop e j (.ref it) .none X.env).quiet = true)
    (hx : X.xe = fun _ _ => False) (hc : X.calm = true) (hg : PG X tg (gD X.K T I g)) (ht : PTs X ifs (tB X.K T t)) (hem : GEm X em (emD X.K T I emf))
    (Tn : Turn X.prog X.w X.K tg J fp it tn) {A : Around} {S : Addr} {ip : List (Addr × Obj)} {R : GenEnd} {fs : List Frame} (gc : GC X S ip A (.compLoop e j (.ref it) .none X.env) fs id) (hfp : ∀ b ∈ fp, FpG X S ip b)
    {σ0 : L2.St} {res : Gam × Sto × List D} {Z : List Addr} (hit : ItOk (X.K, Z) T H1 m1 J src)
    (hend : ∀ (n : Nat) (ys : List V) (s₀ s : Shared) (σ : L2.St) (H : Hp) (m : List Addr), n + ys.length = sizeLine → GI X S ip ys σ H s → Ext T H1 m1 H m → Ok (X.K, Z) T H m res.2.1 → EnvOk (X.K, Z) H m σ res.1 → Sl I σ0 σ → Reps (X.K, Z) H m ys res.2.2 →
      Seg (model X.prog X.w) A R (GY X S) n s₀ (.compLoop e j (.ref it) .none X.env) (.pure (.done .next)) fs s) :
    ∀ (k i n : Nat) (ys : List V) (s₀ s : Shared) (σ : L2.St) (H : Hp) (m : List Addr) (G : Gam) (S1 : Sto) (acc : List D), dGLoop src g t emf k i G S1 acc = some res → n + ys.length = sizeLine → GI X S ip ys σ H s → tn i s.heap → (∀ b ∈ fp, H b = none) →
      Ext T H1 m1 H m → Ok (X.K, Z) T H m S1 → EnvOk (X.K, Z) H m σ G → Sl I σ0 σ → Reps (X.K, Z) H m ys acc →
      Seg (model X.prog X.w) A R (GY X S) n s₀ (.compLoop e j (.ref it) .none X.env) ((model X.prog X.w).den (.compLoop e j (.ref it) .none X.env)) fs s := by
  intro k
  induction k with
  | zero => intro i n ys s₀ s σ H m G S1 acc e; cases e
  | succ k ih =>
    intro i n ys s₀ s σ H m G S1 acc eL hn hI hst hnone x0 ok en sl rs
    unfold dGLoop at eL
    obtain ⟨o, e1, e2⟩ := Option.bind_eq_some_iff.mp eL
    have tt := hit [] i H m S1 (fun _ h => by cases h) x0.h ok
    rw [e1] at tt
    obtain ⟨acc0, cc, r0, I0⟩ := hI
    have fpo : ∀ {H : Hp} {ob : Obj}, (∀ b ∈ fp, H b = none) → ∀ b ∈ fp, FpOk X ((S, ob) :: ip) H b := fun hn b hb => (hfp b hb).ok (hn b hb)
    rw [hden, hturn, Sem.onRaise_eq_wrap]
    refine seg_bind_wrap (wpAny_standAt ?_)
    cases o with
    | none =>
      obtain ⟨rfl⟩ : res = (G, S1, acc) := by cases e2; rfl
      refine seg_bind_wrap ?_
      rw [gc.over]
      refine thnF (Tn.done X rfl rfl rfl hc i _ s σ H (fun _ _ => False) I0 (fpo hnone) hst tt) fun r s6 ⟨hr, I6⟩ => ?_
      subst hr
      exact hend n ys s₀ s6 σ H m hn ⟨acc0, cc, r0, I6⟩ x0 ok en sl rs
    | some d =>
      obtain ⟨⟨G4, S4⟩, e5, e6⟩ := Option.bind_eq_some_iff.mp e2
      obtain ⟨⟨b, S5⟩, e7, e8⟩ := Option.bind_eq_some_iff.mp e6
      refine seg_bind_wrap ?_
      rw [gc.over]
      refine thnF (Tn.item X rfl rfl rfl hc i _ s σ H (fun _ _ => False) I0 (fpo hnone) hst tt.1) fun r s6 ⟨u, hr, h6⟩ => ?_
      subst hr
      refine seg_bind_wrap ?_
      rw [gc.over]
      refine thnF h6 fun _ s7 ⟨x, H7, I7, r7, y7, st7, n7⟩ => ?_
      obtain ⟨m7, x7, o7, rp7⟩ := tt.2 x H7 y7
      have I7' := I7.pinned (fpo n7) (Tn.obj _ _ st7)
      have gc' : GC X S (ip ++ pinsAt fp s7.heap) A (.compLoop e j (.ref it) .none X.env) fs id := ⟨gc.pn, fun p hp => by
        rcases List.mem_append.mp hp with hp | hp
        · exact gc.ip p hp
        · exact fun z => (hfp p.1 (of_pinsAt hp).1).2.2.2.2.2 z.symm, gc.apart, gc.over, gc.split, gc.guard, rfl⟩
      refine seg_bind_wrap ?_
      rw [gc.over]
      have xe0 : ∀ {α : Type} {t : Sem α} {Q Q' : α → Shared → Prop} {E : Value → Shared → Prop} {s : Shared}, wpAny (model X.prog X.w) X.A t Q X.xe s → (∀ a s, Q a s → Q' a s) → wpAny (model X.prog X.w) X.A t Q' E s := fun h k => wpAny_mono h k fun x s z => by rw [hx] at z; exact z.elim
      refine xe0 (hg.run _ s7 σ H7 x u (fun σ8 H8 => ∃ m8, Ext T H7 m7 H8 m8 ∧ Ok (X.K, Z) T H8 m8 S4 ∧ EnvOk (X.K, Z) H8 m8 σ8 G4 ∧ Sl I σ σ8) I7' r7 ⟨Z, d, G, S1, m7, G4, S4, o7, en.mono x7 ok, rp7, e5, fun σ' H' m' h1 h2 h3 h4 => ⟨m', h1, h2, h3, h4⟩⟩) fun _ s8 ⟨σ8, H8, I8, m8, x8, o8, en8, sl8⟩ => ?_
      refine seg_bind_wrap ?_
      rw [gc.over]
      have h9 : tB X.K T t σ8 H8 (fun b' H9 => b' = b ∧ ∃ m9, Ext T H8 m8 H9 m9 ∧ Ok (X.K, Z) T H9 m9 S5 ∧ EnvOk (X.K, Z) H9 m9 σ8 G4) := by
        refine tB.go o8 en8 e7 fun H5 m5 x5 o5 en5 => ?_
        exact ⟨rfl, m5, x5, o5, en5⟩
      refine xe0 (ht.run _ s8 σ8 H8 _ I8 h9) fun b' s9 ⟨H9, I9, hb', m9, x9, o9, en9⟩ => ?_
      subst hb'
      have rs9 : Reps (X.K, Z) H9 m9 ys acc := ((rs.mono x7 ok).mono x8 o7).mono x9 o8
      have xx9 : Ext T H1 m1 H9 m9 := ((x0.trans x7).trans x8).trans x9
      have G9 : GI X S (ip ++ pinsAt fp s7.heap) ys σ8 H9 s9 := ⟨acc0, cc, r0, I9⟩
      -- the next turn
      have go : ∀ {n' : Nat} {ys' : List V} {s0' s' : Shared} {σ' : L2.St} {H' : Hp} {m' : List Addr} {G' : Gam} {S' : Sto} {acc' : List D}, dGLoop src g t emf k (i + 1) G' S' acc' = some res → n' + ys'.length = sizeLine → GI X S (ip ++ pinsAt fp s7.heap) ys' σ' H' s' →
          Ext T H1 m1 H' m' → Ok (X.K, Z) T H' m' S' → EnvOk (X.K, Z) H' m' σ' G' → Sl I σ0 σ' → Reps (X.K, Z) H' m' ys' acc' → Seg (model X.prog X.w) A R (GY X S) n' s0' (.compLoop e j (.ref it) .none X.env) (.pure (.again (.compLoop e j (.ref it) .none X.env))) fs s' := by
        intro n' ys' s0' s' σ' H' m' G' S' acc' eL' hn' hI' x' o' en' sl' rs'
        obtain ⟨acc2, c2, r2, I2⟩ := hI'
        have pin' : ∀ b ∈ fp, ∀ o, s7.heap.get? b = some o → s'.heap.get? b = some o ∧ H' b = none := fun b hb o e =>
          let z := I2.pin (b, o) (List.mem_append_right _ (List.mem_cons_of_mem _ (List.mem_append_right _ (mem_pinsAt hb e))))
          ⟨z.1, z.2.1⟩
        refine seg_again hq (ih (i + 1) n' ys' s0' s' σ' H' m' G' S' acc' eL' hn' ⟨acc2, c2, r2, Inv.unpinned (pins := (S, lstObj acc2 c2) :: ip) I2⟩ (Tn.keep _ _ _ st7 fun b hb o e => (pin' b hb o e).1) (fun b hb => ?_) x' o' en' sl' rs')
        obtain ⟨o, e, _⟩ := Tn.obj _ _ st7 b hb
        exact (pin' b hb o e).2
      cases b' with
      | false =>
        simp only [Bool.false_eq_true, if_false] at e8
        exact go e8 hn G9 xx9 o9 en9 (sl.trans sl8) rs9
      | true =>
        simp only [if_true] at e8
        obtain ⟨⟨G10, S10, acc10⟩, e9, e10⟩ := Option.bind_eq_some_iff.mp e8
        simp only [if_true]
        rw [Sem.bind_eq_wrap', Sem.wrap_wrap]
        refine hem.run A S _ R n ys s₀ _ fs _ _ _ _ s9 σ8 H9 (fun ys' σ' H' => ∃ m', Ext T H9 m9 H' m' ∧ Ok (X.K, Z) T H' m' S10 ∧ EnvOk (X.K, Z) H' m' σ' G10 ∧ Sl I σ8 σ' ∧ Reps (X.K, Z) H' m' ys' acc10) gc' hn (fun n' ys' s0' s' σ' H' hn' hI' hD => ?_) G9
          ⟨Z, G4, S5, m9, acc, G10, S10, acc10, o9, en9, rs9, e9, fun ys' σ' H' m' h1 h2 h3 h4 h5 => ⟨m', h1, h2, h3, h4, h5⟩⟩
        obtain ⟨m', x', o', en', sl', rs'⟩ := hD
        exact go e10 hn' hI' (xx9.trans x') o' en' ((sl.trans sl8).trans sl') rs'
theorem gx_start {P : Program} {w : World} {Kf : PySem.W.Frag} {e tg : Expr} {j : Nat} {ipos : Pos} {J1 : Value → Sem Unit} {it : Addr} {fp : List Addr} {tn : Nat → Heap → Prop} {J : It} {env : Env} {A : Around} {R : GenEnd} {Y : Protocol} {n : Nat} {fs : List Frame} {s₀ s : Shared}
    (hst : compStart e j (.ref it) .none env = (do
      if (← ask).params.followText "comprehension-iter-twice" then return ← again (.compLoop e j (.ref it) .none env)
      rule "comprehension.iter-twice"
      standAt ipos
      again (.compLoop e j (← pyIter (.ref it)) .none env)))
    (hden : (model P w).den (.compStart e j (.ref it) .none env) = (compStart e j (.ref it) .none env).onRaise J1) (hq : (Code.compLoop e j (.ref it) .none env).quiet = true)
    (Tn : Turn P w Kf tg J fp it tn) (st : tn 0 s.heap) (h : Seg (model P w) A R Y n s₀ (.compLoop e j (.ref it) .none env) ((model P w).den (.compLoop e j (.ref it) .none env)) fs s) :
    Seg (model P w) A R Y n s₀ (.compStart e j (.ref it) .none env) ((model P w).den (.compStart e j (.ref it) .none env)) fs s := by
  rw [hden, hst, Sem.onRaise_eq_wrap]
  refine seg_bind_wrap (wpAny_askSetting ?_)
  split
  · exact seg_again hq h
  · refine seg_bind_wrap (wpAny_rule ?_)
    refine seg_bind_wrap (wpAny_standAt ?_)
    refine seg_bind_wrap (Tn.self _ 0 s _ _ st ?_)
    exact seg_again hq h
def clSem (e i1 : Expr) (j : Nat) (env : Env) : Sem Unit := do
  let x ← eval i1 env
  standAt i1.pos
  let x ← foldedSetIterable i1 env x
  let _ ← runOwn (.compStart e (j + 1) (← holding [x] (pyIter x)) .none env) env
def emCl (w : DI) (g : DG) (t : DT) (em : DEm) : DEm := fun G S acc => (w G S).bind fun p => dGLoop p.1 g t em p.2.1 0 G p.2.2 acc
/-- the words of the clause at j -/
structure ClW (P : Program) (w : World) (e tg iter : Expr) (ifs : List Expr) (j : Nat) (em : Sem Unit) (env : Env) : Prop where
  turn : ∀ it, compTurn e j it .none env = (do
      standAt iter.pos
      match ← pyNext it with
      | none => pure (.done .next)
      | some v =>
        letOwnedTupleGo tg it v
        assign tg env v
        let mut ok := true
        for c in ifs do
          if ok then ok ← isTrue c env (eval c env)
        if ok then
          em
        again (.compLoop e j it .none env))
  start : ∀ it, compStart e j it .none env = (do
      if (← ask).params.followText "comprehension-iter-twice" then return ← again (.compLoop e j it .none env)
      rule "comprehension.iter-twice"
      standAt iter.pos
      again (.compLoop e j (← pyIter it) .none env))
  d0 : ∃ J0, ∀ it, (model P w).den (.compLoop e j it .none env) = (compTurn e j it .none env).onRaise J0
  d1 : ∃ J1, ∀ it, (model P w).den (.compStart e j it .none env) = (compStart e j it .none env).onRaise J1
  quiet : ∀ it, (Code.compLoop e j it .none env).quiet = true
theorem rEmCl {X : Cx} {T : List Addr} {I : List Nat} {e i1 tg : Expr} {ifs : List Expr} {j : Nat} {em : Sem Unit} {w : DI} {g : DG} {t : DT} {emf : DEm} (hx : X.xe = fun _ _ => False) (hc : X.calm = true) (W : ClW X.prog X.w e tg i1 ifs (j + 1) em X.env)
    (hs : ∀ x, foldedSetIterable i1 X.env x = pure x) (hw0 : ∀ it, (Code.compStart e (j + 1) it .none X.env).weight = 0 ∧ (Code.compStart e (j + 1) it .none X.env).cUnits = 0 ∧ (Code.compLoop e (j + 1) it .none X.env).weight = 0 ∧ (Code.compLoop e (j + 1) it .none X.env).cUnits = 0)
    (hi : PI X tg i1 (iD X.K T w)) (hg : PG X tg (gD X.K T I g)) (ht : PTs X ifs (tB X.K T t)) (hem : GEm X em (emD X.K T I emf)) : GEm X (clSem e i1 j X.env) (emD X.K T I (emCl w g t emf)) := by
  refine ⟨fun A S ip R n ys s₀ c fs K J gd lv s σ H D gc hn k hI hT => ?_⟩
  obtain ⟨Z, G, S1, m, ds, G', S', ds', ok, en, rs, eD, q⟩ := hT
  unfold emCl at eD
  obtain ⟨⟨src, cnt, S2⟩, e1, e2⟩ := Option.bind_eq_some_iff.mp eD
  obtain ⟨acc0, cc, r0, I0⟩ := hI
  unfold clSem
  refine seg_bind_wrap ?_
  rw [gc.over]
  refine wpAny_mono (hi.run _ s σ H (fun J H' => ∃ m', Ext T H m H' m' ∧ Ok (X.K, Z) T H' m' S2 ∧ ItOk (X.K, Z) T H' m' J src) I0 ⟨Z, G, S1, m, src, cnt, S2, ok, en, e1, fun J H' m' h1 h2 h3 => ⟨m', h1, h2, h3⟩⟩) (fun v s1 h1 => ?_) fun x s' z => by rw [hx] at z; exact z.elim
  refine seg_bind_wrap (wpAny_standAt ?_)
  refine seg_bind_wrap (wpAny_of_eq (hs v) ?_)
  refine seg_bind_wrap (wpAny_holding ?_)
  rw [gc.over]
  refine wpAny_mono h1 (fun itv s2 h2 => ?_) fun x s' z => by rw [hx] at z; exact z.elim
  obtain ⟨it, fp, tn, Jt, H2, rfl, I2, Tn, st2, f2, m2, x2, o2, hit⟩ := h2
  obtain ⟨J0, hd0⟩ := W.d0
  obtain ⟨J1, hd1⟩ := W.d1
  obtain ⟨w1, w2, w3, w4⟩ := hw0 (.ref it)
  have hfp : ∀ b ∈ fp, FpG X S ip b := fun b hb => by
    obtain ⟨_, h1, h2, h3, h4, h5⟩ := f2 b hb
    exact ⟨h1, h2, h3, h4, fun p hp => (List.mem_append.mp hp).elim (fun z => h5 p (List.mem_append_left _ z)) fun z => h5 p (List.mem_append_right _ (List.mem_cons_of_mem _ z)), h5 (S, lstObj acc0 cc) (List.mem_append_right _ List.mem_cons_self)⟩
  show Seg _ A R (GY X S) n s₀ c ((runOwn (.compStart e (j + 1) (.ref it) .none X.env) X.env >>= fun _ => pure ()).wrap K J gd lv) fs s2
  rw [Sem.bind_eq_wrap', Sem.wrap_wrap]
  refine seg_call fun p => ?_
  have gl := fun (kk : Result → Sem PySem.Fin) => gc_loop (k := kk) (c' := .compLoop e (j + 1) (.ref it) .none X.env) (l := lv []) (kp := []) (p := p) gc w3 w4
  refine gx_start (W.start _) (hd1 _) (W.quiet _) Tn st2 ?_
  refine gx_loop (res := (G', S', ds')) (W.turn _) (hd0 _) (W.quiet _) hx hc hg ht hem Tn (gl _) hfp (σ0 := σ) (Z := Z) hit (fun n' ys' s₀' s' σ' H' m' hn' hI' x' o' en' sl' rs' => ?_) cnt 0 n ys s₀ s2 σ H2 m2 G S2 ds e2 hn ⟨acc0, cc, r0, I2⟩ st2 (fun b hb => (f2 b hb).1) Ext.refl o2 (en.mono x2 ok) Sl.refl (rs.mono x2 ok)
  exact seg_leaf (.ok .next) (k n' ys' s₀' s' σ' H' hn' hI' (q ys' σ' H' m' (x2.trans x') o' en' sl' rs'))
end Vw
set_option maxRecDepth 100000
set_option maxHeartbeats 4000000
namespace Vw
open PySem PySem.Spec PyProof.Rows L2 GenW
/-- nothing is thrown -/
abbrev noE : XK := fun _ _ _ => False
theorem noCX {P : Program} {w : World} {outer : List Env} {H : Hp} {s s' : Shared} {e : Value} (h : L2.CX P w outer H s noE e s') : False := by
  obtain ⟨a, B, H', cls, d, _, _, _, _, _, _, _, hW⟩ := h
  exact hW
section
variable {P : Program} {w : World} {outer : List Env} {H : Hp} {sc s : Shared} {ex : List Addr} {Q : List V → Hp → Prop} {A : Around} {a : Addr} {g : Nat} {c : Code}
/-- a generator that has not begun -/
structure Asleep (P : Program) (w : World) (outer : List Env) (H : Hp) (sc : Shared) (ex : List Addr) (Q : List V → Hp → Prop) (A : Around) (a : Addr) (g : Nat) (c : Code) (s : Shared) : Prop where
  gen : s.heap.IsGen a g
  fresh : s.gens[g]? = some (.fresh c)
  lim : s.heap.NoLimit
  os : s.os = sc.os
  bare : AllBare s.gens
  old : sc.heap.objs.size ≤ s.heap.objs.size
  wake : ∀ (S : Addr) (s2 : Shared), s.heap.objs.size ≤ S → (∀ b o, s.heap.get? b = some o → s2.heap.get? b = some o) → (∃ c, s2.heap.get? S = some (lstObj #[] c)) → s2.os = sc.os → AllBare s2.gens →
    Seg (model P w) A (REnd P w outer H sc ex S a g Q noE) (YItem sc S a g) sizeLine s2 c ((model P w).den c) [] s2
theorem collectG {R : List Value → Shared → Prop} {E : Value → Shared → Prop} (hh : A.handled = none) (hd : A.depth < recursionLimit) (Z : Asleep P w outer H sc ex Q A.in1.in1 a g c s)
    (hR : ∀ (S : Addr) (s' : Shared) (acc : Array Value) (cc : Nat) (H' : Hp) (ys : List V), s.heap.objs.size ≤ S → s'.heap.get? S = some (lstObj acc cc) → Vals ys acc.toList → ys.length ≤ sizeLine → s'.os = sc.os → AllBare s'.gens → Un (frs outer) ex H H' sc.heap s'.heap → HOk P w H' s'.heap → H' S = none → Q ys H' → R acc.toList s') :
    wpAny (model P w) A (collect (.ref a)) R E s := by
  have hal : a < s.heap.objs.size := by obtain ⟨o, _, _, ho, _⟩ := Z.gen; exact Heap.lt_size ho
  have hSa : s.heap.objs.size ≠ a := Nat.ne_of_gt hal
  have hSc : s.heap.objs.size ≠ cStatics := Nat.ne_of_gt (let ⟨_, hn, _⟩ := Z.lim; hn.lt)
  unfold collect
  refine wpAny_bind (wpAny_runValue (codeAny_builtin F.entry_proto_collect ?_))
  rw [Around.under_plainId F.plain_proto_collect _]
  show wpAny _ A.in1 (newList [] >>= fun l => again (.builtin "list.__iadd__" ⟨[l, .ref a], []⟩)) _ _ s
  refine wpAny_bind (wpAny_newObj_type ?_)
  refine wpAny_pure ⟨plainId_quiet F.plain_list_iadd _, codeAny_builtin F.entry_list_iadd ?_⟩
  rw [Around.under_plainId F.plain_list_iadd _]
  show wpAny _ A.in1 (Builtin.List.listExtendWith (.ref s.heap.objs.size) (.ref a) (.ref s.heap.objs.size)) _ _ _
  have up : ∀ (h : Heap) (f : Obj → Obj), (∀ b o, s.heap.get? b = some o → h.get? b = some o) → ∀ b o, s.heap.get? b = some o → (h.update s.heap.objs.size f).get? b = some o := fun h f q b o e =>
    (Heap.get?_update_other _ _ (Ne.symm (Nat.ne_of_lt (Heap.lt_size e)))).trans (q b o e)
  have k1 : ∀ b o, s.heap.get? b = some o → (s.heap.push { cls := .type "list", data := .seq ([] : List Value).toArray }).get? b = some o := fun b o e => Heap.get?_push_of_some _ e
  have gty : ∀ {h : Heap}, (∀ b o, s.heap.get? b = some o → h.get? b = some o) → h.IsGen a g := fun {h} q => Z.gen.keeps q
  have ty1 : Shared.TypeIs { s with heap := s.heap.push { cls := .type "list", data := .seq ([] : List Value).toArray } } (.ref a) "generator" := Heap.IsGen.typeIs (s := { s with heap := _ }) (gty k1)
  unfold Builtin.List.listExtendWith
  refine wpAny_bind (wpAny_typeOf ty1 ?_)
  have h1 : Builtin.List.listSameRef (.ref s.heap.objs.size) (.ref a) = false := by simp [Builtin.List.listSameRef, hSa]
  have h2 : (Value.type "generator" == Value.type "list") = false := by decide
  have h3 : (Value.type "generator" == Value.type "tuple") = false := by decide
  simp only [h1, h2, h3, Bool.or_false, Bool.false_eq_true, if_false]
  refine wpAny_bind (wpAny_pyIter_gen (s := { s with heap := _ }) (gty k1) ?_)
  refine wpAny_bind (wpAny_holding ?_)
  unfold Builtin.List.listLengthHint
  refine wpAny_bind (wpAny_specialOf ty1 F.gen_no_len ?_)
  show wpAny _ A.in1 (specialOf (Value.ref a) (Str.ofString "__length_hint__") >>= _) _ _ _
  refine wpAny_bind (wpAny_specialOf ty1 F.gen_no_hint ?_)
  refine wpAny_pure ?_
  show wpAny _ A.in1 (rule "list.extend.makes-room" >>= fun _ => Builtin.List.listTouch (.ref s.heap.objs.size) >>= fun _ =>
    again (.builtin "list.extend.loop" ⟨[.ref s.heap.objs.size, .ref a, .ref s.heap.objs.size], []⟩)) _ _ _
  refine wpAny_bind (wpAny_rule ?_)
  have hS1 : (s.heap.push { cls := .type "list", data := .seq ([] : List Value).toArray }).get? s.heap.objs.size = some { cls := .type "list", data := .seq ([] : List Value).toArray } := Heap.get?_push_size _ rfl
  refine wpAny_bind ?_
  show wpAny _ A.in1 (updateSeq s.heap.objs.size (·.push .none) >>= fun _ => updateSeq s.heap.objs.size (·.pop)) _ _ _
  refine wpAny_bind (wpAny_updateSeq hS1 rfl ?_)
  have hS2 := Heap.get?_update_self (Obj.mapSeq (·.push Value.none)) hS1 rfl
  refine wpAny_updateSeq hS2 rfl ?_
  have hS3 := Heap.get?_update_self (Obj.mapSeq (·.pop)) hS2 rfl
  have k2 := up _ (Obj.mapSeq (·.push Value.none)) k1
  have k3 := up _ (Obj.mapSeq (·.pop)) k2
  refine wpAny_pure ⟨plainId_quiet F.plain_extend_loop _, ?_⟩
  refine drain (P := P) (w := w) (outer := outer) (H := H) (sc := sc) (ex := ex) (Q := Q) (EX := noE) (A := A) (g := g) hh hd hSa hSc
    (fun s' acc cc H' ys q1 q2 q3 q4 q5 q6 q7 q8 q9 => ?_) (fun e s' hcx => (noCX hcx).elim) sizeLine _ (gty k3) (Z.lim.keeps k3) ⟨_, Z.fresh, rfl, ?_⟩
  · show wpAny _ A (load s.heap.objs.size >>= _) _ _ s'
    refine wpAny_bind (wpAny_load q1 ?_)
    exact wpAny_pure (hR _ s' acc cc H' ys (Nat.le_refl _) q1 q2 q3 q4 q5 q6 q7 q8 q9)
  · exact Z.wake _ _ (Nat.le_refl _) k3 ⟨_, hS3⟩ Z.os (allBare_setGen (s := { s with heap := _ }) Z.bare rfl)
theorem call_tupG {R : Value → Shared → Prop} {E : Value → Shared → Prop} (hh : A.handled = none) (hd : A.depth < recursionLimit) (Z : Asleep P w outer H sc ex Q A.in1.in1.in1.in1 a g c s)
    (hR : ∀ (S : Addr) (s' : Shared) (acc : Array Value) (cc : Nat) (H' : Hp) (ys : List V), s.heap.objs.size ≤ S → s'.heap.get? S = some (lstObj acc cc) → Vals ys acc.toList → ys.length ≤ sizeLine → s'.os = sc.os → AllBare s'.gens → Un (frs outer) ex H H' sc.heap s'.heap → HOk P w H' s'.heap → H' S = none → Q ys H' →
      R (.ref s'.heap.objs.size) { s' with heap := s'.heap.push { cls := .type "tuple", data := .seq acc } }) :
    wpAny (model P w) A (call (.type "tuple") [.ref a]) R E s := by
  refine callType_codes (Q₁ := fun obj s₁ => s₁.TypeIs obj "tuple" ∧ R obj s₁) F.called_tuple (F.typeCall_tuple_1 _) F.entry_object_init ?_ fun obj s₁ h₁ => ?_
  · refine codeAny_of_tree ?_
    show wpAny _ A.in1.in1 (do checkBuiltinCall "tuple.__new__" ⟨[.type "tuple", .ref a], []⟩; again (.builtin "tuple.__new__" ⟨[.type "tuple", .ref a], []⟩)) _ _ s
    refine wpAny_bind (wpAny_of_eq (F.newCall_tuple_1 _) (wpAny_pure ⟨plainId_quiet F.plain_tuple_new _, codeAny_builtin F.entry_tuple_new ?_⟩))
    rw [Around.under_plainId F.plain_tuple_new _]
    have hsub := sub_tuple_self
    have hinit := init_tuple_lookup
    have hmh := madeHere_tuple
    have hTI : s.TypeIs (.ref a) "generator" := Heap.IsGen.typeIs (s := s) Z.gen
    have cg : ∀ (R : List Value → Shared → Prop) (E : Value → Shared → Prop), _ → wpAny (model P w) A.in1.in1 (collect (.ref a)) R E s := fun R E hR => collectG (A := A.in1.in1) (R := R) (E := E) hh hd Z hR
    wp_walk using wpAny_typeOf hTI, cg
    intro S s' acc cc H' ys q0 q1 q2 q3 q4 q5 q6 q7 q8 q9
    have hz : acc.size ≤ sizeLine := by
      have e1 := q2.length
      have e2 : acc.toList.length = acc.size := by simp
      omega
    show wpAny _ _ (Builtin.Tuple.tupleExact acc.toList.toArray >>= fun v => ret v) _ _ _
    unfold Builtin.Tuple.tupleExact
    refine wpAny_bind (wpAny_newObj_type ?_ (by show acc.toList.toArray.size ≤ sizeLine; simp only [Array.toArray_toList]; exact hz))
    refine wpAny_pure ?_
    have e : acc.toList.toArray = acc := by simp
    rw [e]
    exact ⟨⟨_, Heap.get?_push_size _ rfl, rfl⟩, hR S s' acc cc H' ys q0 q1 q2 q3 q4 q5 q6 q7 q8 q9⟩
  · exact ⟨h₁.1, F.args_object_init_2 obj _, object_init_meets F.called_tuple.init.lookup F.called_tuple.made (by decide) P w A.in1 _ s₁ ⟨h₁.1, rfl, h₁.2⟩⟩
end
end Vw
set_option maxRecDepth 100000
set_option maxHeartbeats 4000000
namespace Vw
open PySem PySem.Spec PyProof.Rows L2 GenW
structure GenSc (N : List Str) (psc scope : Scope) (Ng : List Str) (js : List (Option Nat)) : Prop where
  kind : scope.kind = .function
  co : scope.isCoroutine = false
  cell : ∀ y ∈ scope.names, y.2 ≠ .cell
  dot : scope.names.lookup (".0" : Str) = some NameKind.local
  uniq : ∀ y ∈ scope.names, scope.names.lookup y.1 = some y.2
  free : ∀ y ∈ scope.names, y.2 = .free → psc.names.lookup y.1 = some .cell ∨ psc.names.lookup y.1 = some .free
  ix : ∀ (i j : Nat), js[i]? = some (some j) → ∃ y, Ng[i]? = some y ∧ N[j]? = some y ∧ scope.names.lookup y = some .free
  len : js.length = Ng.length
def subO {α : Type} (js : List (Option Nat)) (σ : List (Option α)) : List (Option α) := js.map fun o => o.bind fun j => (σ[j]?).join
theorem subO_at {α : Type} {js : List (Option Nat)} {σ : List (Option α)} {i : Nat} {v : α} (h : (subO js σ)[i]? = some (some v)) : ∃ j, js[i]? = some (some j) ∧ σ[j]? = some (some v) := by
  unfold subO at h
  rw [List.getElem?_map] at h
  cases e : js[i]? with
  | none => rw [e] at h; cases h
  | some o =>
    rw [e] at h
    cases o with
    | none => cases h
    | some j =>
      have h : (σ[j]?).join = some v := Option.some.inj h
      refine ⟨j, rfl, ?_⟩
      cases e2 : σ[j]? with
      | none => rw [e2] at h; cases h
      | some x => rw [e2] at h; cases x with
        | none => cases h
        | some x => cases h; rfl
theorem EnvOk.sub {K : PySem.W.Frag × List Addr} {H : Hp} {m : List Addr} {σ : L2.St} {G : Gam} (e : EnvOk K H m σ G) (js : List (Option Nat)) : EnvOk K H m (subO js σ) (subO js G) := by
  refine ⟨by unfold subO; simp, fun i d h => ?_⟩
  obtain ⟨j, h1, h2⟩ := subO_at h
  obtain ⟨v, h3, r⟩ := e.at_ j d h2
  refine ⟨v, ?_, r⟩
  unfold subO
  rw [List.getElem?_map, h1]
  show some ((σ[j]?).join) = _
  rw [h3]; rfl
/-- the generator's frame -/
def gexX (X : Cx) (A' : Around) (sb : Shared) (Hb : Hp) (Ng : List Str) (cenv : Env) (fp : List Addr) (pn : List (Addr × Obj)) : Cx :=
  { prog := X.prog, w := X.w, K := X.K, mg := X.mg, base := X.base, A := A'.deeper cenv, N := Ng, s_0 := sb, H_0 := Hb, env := cenv, outer := X.stack, stack := cenv :: X.stack, ex := fp, fn := fun y => !(cenv.kindOf y == some .free), calm := true, pn := pn, xe := fun _ _ => False }
theorem gex_inv {X : Cx} {pins pl : List (Addr × Obj)} {σ : L2.St} {H : Hp} {s4 s2 : Shared} {A' : Around} {scope : Scope} {Ng : List Str} {js : List (Option Nat)} {code : Value} {fp : List Addr} {m0 : Str → Option Value} {pn : List (Addr × Obj)}
    (I : Inv X pins σ H s4) (GS : GenSc X.N X.env.scope scope Ng js) (hfp : ∀ b ∈ fp, FpOk X pins H b ∧ b < s4.heap.objs.size) (hA : A'.handled = none) (hF : A'.frames = some X.stack)
    (hn : s2.heap.Ns s4.heap.objs.size m0) (hk : ∀ b o, s4.heap.get? b = some o → s2.heap.get? b = some o) (hos : s2.os = s4.os) (hb : AllBare s2.gens)
    (hp : ∀ p ∈ pn ++ pl, s2.heap.get? p.1 = some p.2 ∧ s4.heap.objs.size < p.1 ∧ ∀ v, p.2.data ≠ .cell v) :
    Inv (gexX X A' s4 H Ng (genEnv scope (cloFrom X.env.cells scope.names []) s4.heap.objs.size code builtinsNs X.env) fp pn) pl (subO js σ) H s2 := by
  have hfree : ∀ y ∈ scope.names, y.2 = .free → ∃ c, X.env.cells.lookup y.1 = some c := fun y hy e => by
    rcases GS.free y hy e with k | k
    · exact I.ok.has _ (.inl k)
    · exact I.ok.has _ (.inr k)
  have cm : ∀ {y c}, (cloFrom X.env.cells scope.names []).lookup y = some c → X.env.cells.lookup y = some c := fun e => NdefX.clo_cm hfree e
  have clt : ∀ {y c}, X.env.cells.lookup y = some c → c < s4.heap.objs.size := fun e => by obtain ⟨v, z⟩ := I.cell _ _ e; exact z.lt
  have nst : ∀ {b : Addr}, s4.heap.objs.size ≤ b → b ∉ frs X.stack := fun {b} hb hm => by
    obtain ⟨h1, _⟩ := I.env0.funs.mem hm
    obtain ⟨_, o, ho, _⟩ := I.env0.funs.mem hm
    exact absurd (Nat.lt_of_lt_of_le (Heap.lt_size ho) hb) (Nat.lt_irrefl _)
  have okG : (gexX X A' s4 H Ng (genEnv scope (cloFrom X.env.cells scope.names []) s4.heap.objs.size code builtinsNs X.env) fp pn).Ok := by
    refine ⟨I.ok.mod, GS.kind, I.ok.glob, rfl, Nat.le_refl _, fun y z c e1 e2 => I.ok.inj y z c (cm e1) (cm e2), fun y hy => ?_, fun y c hf e => ?_, fun _ => hA, Around.frames_deeper hF, .inr ⟨rfl, rfl⟩, fun b hb => ⟨Nat.ne_of_lt (hfp b hb).2, fun y c e => (hfp b hb).1.2.2.2.2.1 y c (cm e)⟩, I.bs, Nat.le_trans I.ok.bsz I.sz,
      fun b o e hb => ?_, fun b hb z => ?_, I.env0.funs, I.env0.frf⟩
    · have hy : scope.names.lookup y = some .cell ∨ scope.names.lookup y = some .free := hy
      rcases hy with hy | hy
      · exact absurd rfl (GS.cell _ (PySem.mem_of_lookup hy))
      · have hm := PySem.mem_of_lookup hy
        obtain ⟨c, hc⟩ := hfree _ hm rfl
        exact ⟨c, NdefX.clo_has hfree hm hc⟩
    · have e : (cloFrom X.env.cells scope.names []).lookup y = some c := e
      rcases cloFrom_mem (PySem.mem_of_lookup e) with hm | ⟨h1, _⟩
      · cases hm
      · have hu := GS.uniq _ h1
        have hf : (!(scope.names.lookup y == some NameKind.free)) = true := hf
        rw [hu] at hf
        simp at hf
    · rcases (hfp b hb).1.2.2.2.1 with z | z
      · exact I.ok.noex b o e z
      · exact absurd (Nat.lt_of_lt_of_le (Heap.lt_size e) (Nat.le_trans I.ok.bsz z)) (Nat.lt_irrefl _)
    · rcases List.mem_cons.mp (I.stkSub b z) with q | q
      · exact (hfp b hb).1.2.1 q
      · exact (hfp b hb).1.2.2.1 q
  refine ⟨okG, hos, hb, Un.kept hk, ⟨m0, hn, fun i y v h1 h2 _ => ?_⟩, fun y c e => ?_, I.hok.fresh (Nat.le_refl _), fun y c e => I.freeC y c (cm e), fun p hp' => ?_, I.hok.kept hk, ?_⟩
  · obtain ⟨j, e1, e2⟩ := subO_at h2
    obtain ⟨y', e3, e4, e5⟩ := GS.ix i j e1
    have h1 : Ng[i]? = some y := h1
    rw [h1] at e3; cases e3
    obtain ⟨m, _, hl⟩ := I.loc
    have hy := PySem.mem_of_lookup e5
    have kd := GS.free _ hy rfl
    obtain ⟨u, ru, lk⟩ := hl j y v e4 e2 (kd.elim (fun z => .inr (.inl z)) fun z => .inr (.inr z))
    refine ⟨u, ru, .inr ⟨.inr e5, ?_⟩⟩
    rcases lk with ⟨k1, _⟩ | ⟨_, c, k2, k3⟩
    · have k1 : X.env.scope.names.lookup y = some .local := k1
      have kd' : X.env.scope.names.lookup y = some .cell ∨ X.env.scope.names.lookup y = some .free := kd
      rw [k1] at kd'
      rcases kd' with z | z <;> cases z
    · refine ⟨c, NdefX.clo_has hfree hy k2, ?_⟩
      obtain ⟨o, ho, hd⟩ := k3
      exact ⟨o, hk _ _ ho, hd⟩
  · obtain ⟨v, o, ho, hd⟩ := I.cell y c (cm e)
    exact ⟨v, o, hk _ _ ho, hd⟩
  · obtain ⟨q1, q2, q3⟩ := hp p hp'
    exact ⟨q1, I.hok.fresh (Nat.le_of_lt q2), Nat.ne_of_gt q2, nst (Nat.le_of_lt q2), q3⟩
  · unfold subO
    rw [List.length_map]
    exact GS.len
end Vw
set_option maxRecDepth 100000
set_option maxHeartbeats 4000000
namespace Vw
open PySem PySem.Spec PyProof.Rows L2 GenW
theorem evalGen (elt tg iter : Expr) (ifs : List Expr) (rest : List Comprehension) (scope : Scope) (pos : Pos) (env : Env) (hco : scope.isCoroutine = false) :
    eval (.GeneratorExp elt (⟨tg, iter, ifs, 0⟩ :: rest) scope pos) env = (eval iter env >>= fun x => standAt iter.pos >>= fun _ => genFold iter env x >>= fun x => holding [x] (pyIter x) >>= fun it =>
      enterFrame >>= fun _ => closureFor scope env >>= fun cl => genexprCode env pos (env.qual ++ "<genexpr>") scope >>= fun code => builtinsFor env.globals env.builtins >>= fun bi =>
      newFunctionEnv scope env.globals cl [(".0", it)] (env.qual ++ "<genexpr>.") none code none bi >>= fun cenv =>
      newGenerator (.compStart (.GeneratorExp elt (⟨tg, iter, ifs, 0⟩ :: rest) scope pos) 0 it .none cenv) "<genexpr>" (env.qual ++ "<genexpr>")) := by
  rw [arm_eval_GeneratorExp]
  simp only [hco, Bool.false_eq_true, if_false]
  cases iter <;> rfl
/-- the object of a generator -/
abbrev genObj (n : Nat) (a b : Value) : Obj := { cls := .type "generator", data := .fields #[.int n 0, a, b] }
section
variable {M : Model} {A : Around} {E : Value → Shared → Prop} {s : Shared}
theorem gexMake {env : Env} {elt tg iter : Expr} {ifs : List Expr} {rest : List Comprehension} {scope : Scope} {cl : List (Str × Addr)} {pos : Pos} {Q : Value → Shared → Prop}
    (hco : scope.isCoroutine = false) (hclos : closureFor scope env = pure cl) (hcell : ∀ y ∈ scope.names, y.2 ≠ .cell) (h0 : scope.names.lookup (".0" : Str) = some NameKind.local) (hkind : scope.kind = .function) (hroom : A.depth < recursionLimit) (hs : ∀ x, genFold iter env x = pure x)
    (h : wpAny M A (eval iter env) (fun xv s₁ => wpAny M A (pyIter xv) (fun it s₂ => s₂.heap.NoLimit ∧ wpAny M A (genexprCode env pos (env.qual ++ "<genexpr>") scope) (fun code s₃ => wpAny M A (builtinsFor env.globals env.builtins) (fun bi s₄ =>
        ∀ (h' : Heap) (n1 n2 : Value) (tk : Nat), h'.Ns s₄.heap.objs.size (fun y => if y = ".0" then some it else none) → Heap.SameBut s₄.heap.objs.size (s₄.heap.push { cls := .type "frame", data := .dict #[] }) h' →
          Q (.ref h'.objs.size) { s₄ with gens := s₄.gens.push (.fresh (.compStart (.GeneratorExp elt (⟨tg, iter, ifs, 0⟩ :: rest) scope pos) 0 it .none (genEnv scope cl s₄.heap.objs.size code bi env))), toks := tk, heap := h'.push (genObj s₄.gens.size n1 n2) }) E s₃) E s₂) E s₁) E s) :
    wpAny M A (eval (.GeneratorExp elt (⟨tg, iter, ifs, 0⟩ :: rest) scope pos) env) Q E s := by
  rw [evalGen _ _ _ _ _ _ _ _ hco, hclos]
  refine wpAny_bind (wpAny_mono h (fun xv s₁ h₁ => ?_) fun _ _ e => e)
  refine wpAny_bind (wpAny_standAt ?_)
  refine wpAny_bind (wpAny_of_eq (hs xv) ?_)
  refine wpAny_bind (wpAny_holding (wpAny_mono h₁ (fun it s₂ h₂ => ?_) fun _ _ e => e))
  refine wpAny_bind (wpAny_enterFrame h₂.1 hroom ?_)
  refine wpAny_bind (wpAny_pure ?_)
  refine wpAny_bind (wpAny_mono h₂.2 (fun code s₃ h₃ => ?_) fun _ _ e => e)
  refine wpAny_bind (wpAny_mono h₃ (fun bi s₄ h₄ => ?_) fun _ _ e => e)
  have hbinds : ∀ y ∈ ([((".0" : Str), it)] : List (Str × Value)), scope.names.lookup y.1 = some NameKind.local := by
    intro y hy
    rcases List.mem_cons.mp hy with rfl | hy
    · exact h0
    · cases hy
  refine wpAny_bind (wpAny_newFunctionEnv hcell hbinds (fun h' hn' hs' => ?_) hkind)
  have e : (fun y : Str => ([((".0" : Str), it)] : List (Str × Value)).reverse.lookup y) = fun y : Str => if y = (".0" : Str) then some it else none := by
    funext y
    by_cases hy : y = ".0"
    · subst hy; simp
    · have : (y == (".0" : Str)) = false := by simpa using hy
      simp [List.lookup, this, hy]
  rw [e] at hn'
  simp only [newGenerator, newFields]
  exact wpAny_bind (wpAny_newGen (wpAny_bind (wpAny_mkText (wpAny_bind (wpAny_mkText (wpAny_newObj_type (h₄ h' _ _ _ hn' hs') (by size_fits)))))))
end
section
variable {K : PySem.W.Frag} {Z : List Addr} {T : List Addr} {H : Hp} {m : List Addr} {S : Sto}
theorem ext_tab {P : Addr} {o : HO} (hP : P ∈ T) : Ext T H m (upd H P o) m :=
  ⟨⟨[], by simp⟩, fun a u e _ hn => by rw [upd_ne (fun z => hn (by rw [z]; exact hP))]; exact e, fun _ z n _ => absurd z n⟩
theorem Ok.tabbed (ok : Ok (K, Z) T H m S) {P : Addr} {ps qs : Array Value} (hP : P ∈ T) (h : H P = some (.tbl ps)) (hq : TriplesOk qs.toList) : Ok (K, Z) T (upd H P (.tbl qs)) m S where
  tp := ok.tp.upd trivial
  nd := ok.nd
  len := ok.len
  lst := fun n a ds e1 e2 => by
    obtain ⟨xs, q, r⟩ := ok.lst n a ds e1 e2
    refine ⟨xs, ?_, r.mono (ext_tab hP) ok⟩
    rw [upd_ne (fun z => by rw [z, h] at q; cases q)]
    exact q
  dic := fun n a ks ds e1 e2 => by
    obtain ⟨xs, q, e, r⟩ := ok.dic n a ks ds e1 e2
    refine ⟨xs, ?_, e, r.mono (ext_tab hP) ok⟩
    rw [upd_ne (fun z => by rw [z, h] at q; cases q)]
    exact q
  tab := fun p hp => by
    by_cases e : p = P
    · rw [e]; exact ⟨qs, upd_same, hq⟩
    · obtain ⟨ps', h1, h2⟩ := ok.tab p hp
      exact ⟨ps', by rw [upd_ne e]; exact h1, h2⟩
  hid := fun a ha => by
    obtain ⟨h1, h2⟩ := ok.hid a ha
    refine ⟨h1, ?_⟩
    by_cases e : a = P
    · rw [e, upd_same]; exact fun z => by cases z
    · rw [upd_ne e]; exact h2
theorem Ext.thenH {Z T : List Addr} {H H' H2 : Hp} {m m' m2 : List Addr} (x : Ext T H m H' m') (hb : ∀ a xs, H' a = some (.lst xs) → H a = some (.lst xs)) (y : ExtH Z T H' m' H2 m2) : ExtH Z T H m H2 m2 := by
  obtain ⟨B, hB, y⟩ := y
  exact ⟨B, fun a ha => let ⟨h1, xs, h2⟩ := hB a ha; ⟨h1, xs, hb a xs h2⟩, x.more.trans y⟩
theorem ItOk.later {H' : Hp} {m' : List Addr} {J : It} {src : Src} (h : ItOk (K, Z) T H m J src) (x : Ext T H m H' m') (hn : ∀ a, H' a = none → H a = none) (hb : ∀ a xs, H' a = some (.lst xs) → H a = some (.lst xs)) : ItOk (K, Z) T H' m' J src :=
  fun E i H2 m2 S2 hE x2 o2 => h E i H2 m2 S2 (fun a ha => hn a (hE a ha)) (x.thenH hb x2) o2
end
/-- a frame code's around -/
theorem over_gex {A : Around} {elt : Expr} {gens : List Comprehension} {scope : Scope} {pos : Pos} {it acc : Value} {env : Env} : A.over (.compLoop (.GeneratorExp elt gens scope pos) 0 it acc env) [] = A.deeper env := by
  first
    | rfl
    | (obtain ⟨hd, d, fr, gs, u⟩ := A; simp [Around.over, Around.deeper, marksOver, frameCount, unitsOf, envsOf, guardsOf, pushEnvs, pushGuards, Code.envs, Code.env?, Code.isFrame, Code.guards, Code.isGuard, Code.weight, Code.frames, Code.isCreation, Code.isCaller, Code.cUnits])
theorem clr_in1 {A : Around} (h : Clr A) : Clr A.in1 := h
theorem clr_deeper {A : Around} {env : Env} (h : Clr A) : Clr (A.deeper env) := h
end Vw
set_option maxRecDepth 100000
set_option maxHeartbeats 4000000
namespace Vw
open PySem PySem.Spec PyProof.Rows L2 GenW
/-- tuple(elt for ..): the values one behind another -/
def dGen (js : List (Option Nat)) (w : DI) (g : DG) (t : DT) (em : DEm) : DE := fun G S => (w G S).bind fun p => (dGLoop p.1 g t em p.2.1 0 (subO js G) p.2.2 []).bind fun r => okTup r.2.2 r.2.1
section
variable {X : Cx} {T : List Addr}
theorem rGenTup {k : Nat} {nm : Str} {p pos gpos : Pos} {c P : Addr} {elt tg iter : Expr} {ifs : List Expr} {rest : List Comprehension} {scope : Scope} {Ng : List Str} {js : List (Option Nat)} {I : List Nat} {w : DI} {g : DG} {t : DT} {emf : DEm}
    (hr : Room (k + 5) X.A) (hcl : Clr X.A) (hgl : Gl X nm) (hmg : X.mg nm = none) (hv : bootBuiltins nm = some (.type "tuple")) (hP : P ∈ T) (TB : GxR.TabB X.base X.mg c P) (hcode : X.env.code = .ref c)
    (GS : GenSc X.N X.env.scope scope Ng js) (hs : ∀ v, genFold iter X.env v = pure v) (hi : PI X tg iter (iD X.K T w))
    (body : ∀ (A' : Around) (sb : Shared) (Hb : Hp) (fp : List Addr) (pn : List (Addr × Obj)) (cl : List (Str × Addr)) (C : Addr) (code : Value), Room k (A'.deeper (genEnv scope cl C code builtinsNs X.env)) → Clr (A'.deeper (genEnv scope cl C code builtinsNs X.env)) →
      ∃ em, ClW X.prog X.w (.GeneratorExp elt (⟨tg, iter, ifs, 0⟩ :: rest) scope gpos) tg iter ifs 0 em (genEnv scope cl C code builtinsNs X.env) ∧
        PG (gexX X A' sb Hb Ng (genEnv scope cl C code builtinsNs X.env) fp pn) tg (gD X.K T I g) ∧ PTs (gexX X A' sb Hb Ng (genEnv scope cl C code builtinsNs X.env) fp pn) ifs (tB X.K T t) ∧ GEm (gexX X A' sb Hb Ng (genEnv scope cl C code builtinsNs X.env) fp pn) em (emD X.K T I emf))
    (hnm : nm ≠ "__name__" := by decide) (hdb : (nm == ("__debug__" : Str)) = false := by decide)
    (he : starEach [.GeneratorExp elt (⟨tg, iter, ifs, 0⟩ :: rest) scope gpos] X.env = (false, eval (.GeneratorExp elt (⟨tg, iter, ifs, 0⟩ :: rest) scope gpos) X.env) :: starEach [] X.env := by rfl) :
    PE X (.Call (.Name nm p) [.GeneratorExp elt (⟨tg, iter, ifs, 0⟩ :: rest) scope gpos] [] pos) (tD X.K T (dGen js w g t emf)) := by
  refine ⟨fun pins s σ H Q Iv hq => ?_⟩
  obtain ⟨Z, G, S, m, d, S', ok, en, f, q⟩ := hq
  unfold dGen at f
  obtain ⟨⟨src, cnt, S1⟩, e1, f⟩ := Option.bind_eq_some_iff.mp f
  obtain ⟨⟨G2, S2, ds⟩, e2, f⟩ := Option.bind_eq_some_iff.mp f
  refine wpAny_Call_Name_kw (ld_blt Iv hgl hmg hv ?_ hnm hdb)
  refine PyProof.Rows.callWith_type1 ?_ he rfl
  rw [he]
  show wpAny _ _ (spliced ((false, eval (.GeneratorExp elt (⟨tg, iter, ifs, 0⟩ :: rest) scope gpos) X.env) :: backTo pos (starEach [] X.env))) _ _ s
  have hfree : ∀ y ∈ scope.names, y.2 = .free → ∃ c, X.env.cells.lookup y.1 = some c := fun y hy e => by
    rcases GS.free y hy e with k | k
    · exact Iv.ok.has _ (.inl k)
    · exact Iv.ok.has _ (.inr k)
  have hroom : X.A.depth < recursionLimit := by have := hr.dp; omega
  refine Calls.spliced_cons (gexMake GS.co (closure_ok hfree) GS.cell GS.dot GS.kind hroom hs ?_)
  refine wpAny_mono (hi.run pins s σ H (fun J H' => ∃ m', Ext T H m H' m' ∧ Ok (X.K, Z) T H' m' S1 ∧ ItOk (X.K, Z) T H' m' J src) Iv ⟨Z, G, S, m, src, cnt, S1, ok, en, e1, fun J H' m' h1 h2 h3 => ⟨m', h1, h2, h3⟩⟩) (fun v s1 h1 => ?_) fun x s' z => z
  refine wpAny_mono h1 (fun itv s2 h2 => ?_) fun x s' z => z
  obtain ⟨it, fp, tn, J, H1, rfl, I1, Tn, st1, f1, m1, x1, o1, hit⟩ := h2
  refine ⟨I1.nolimit, ?_⟩
  obtain ⟨ps, hPs, hTr⟩ := o1.tab P hP
  have hPh : s2.heap.get? P = some { cls := .none, data := .fields ps } := I1.hok P _ hPs
  have cd : PySem.W.CodeHd s2.heap c P := TB.code.keeps fun b u e => I1.bk b u e
  have fpP : ∀ b ∈ fp, b ≠ P := fun b hb z => by
    have := (f1 b hb).1
    rw [z, hPs] at this; cases this
  -- behind the code object
  have cont : ∀ (code : Value) (h3 : Heap) (tk : Nat) (ps' : Array Value), Heap.ExtBut P s2.heap h3 → s2.heap.objs.size ≤ h3.objs.size → h3.get? P = some { cls := .none, data := .fields ps' } → (∃ more, ps' = ps ++ more) → TriplesOk ps'.toList →
      wpAny (model X.prog X.w) X.A (builtinsFor X.env.globals X.env.builtins) (fun bi s₄ =>
        ∀ (h' : Heap) (n1 n2 : Value) (tk : Nat), h'.Ns s₄.heap.objs.size (fun y => if y = ".0" then some (.ref it) else none) → Heap.SameBut s₄.heap.objs.size (s₄.heap.push { cls := .type "frame", data := .dict #[] }) h' →
          wpAny (model X.prog X.w) X.A (spliced (backTo pos (starEach [] X.env))) (fun vs s' => wpAny (model X.prog X.w) X.A (call (.type "tuple") (.ref h'.objs.size :: vs)) (EP X pins σ Q) X.xe s') X.xe
            { s₄ with gens := s₄.gens.push (.fresh (.compStart (.GeneratorExp elt (⟨tg, iter, ifs, 0⟩ :: rest) scope gpos) 0 (.ref it) .none (genEnv scope (cloFrom X.env.cells scope.names []) s₄.heap.objs.size code bi X.env))), toks := tk, heap := h'.push (genObj s₄.gens.size n1 n2) }) X.xe { s2 with heap := h3, toks := tk } := by
    intro code h3 tk ps' hx hsz hP3 hmore ht3
    obtain ⟨more, em⟩ := hmore
    obtain ⟨bm, ob, b1, b2, b3, b4, b5, b6, b7, b8⟩ := TB.bm
    have I3 : Inv X pins σ (upd H1 P (.tbl ps')) { s2 with heap := h3, toks := tk } := by
      rw [em] at hP3 ⊢
      exact GxR.inv_tab (g' := s2.gens) (d' := s2.drawn) (t' := tk) I1 hPs (fun b o hb e => hx b o hb e) hP3 I1.bare
    have o3 : Ok (X.K, Z) T (upd H1 P (.tbl ps')) m1 S1 := o1.tabbed hP hPs ht3
    have x3 : Ext T H1 m1 (upd H1 P (.tbl ps')) m1 := ext_tab hP
    have hit3 : ItOk (X.K, Z) T (upd H1 P (.tbl ps')) m1 J src := hit.later x3 (fun a => NdefX.upd_none) fun a xs e => by
      by_cases z : a = P
      · rw [z, upd_same] at e; cases e
      · rwa [upd_ne z] at e
    have en3 : EnvOk (X.K, Z) (upd H1 P (.tbl ps')) m1 (subO js σ) (subO js G) := ((en.mono x1 ok).mono x3 o1).sub js
    have st3 : tn 0 h3 := Tn.keep _ _ _ st1 fun b hb o e => hx b o (fpP b hb) e
    have f3 : ∀ b ∈ fp, FpOk X pins (upd H1 P (.tbl ps')) b ∧ b < h3.objs.size := fun b hb => by
      obtain ⟨g1, g2⟩ := f1 b hb
      obtain ⟨o, eo, _⟩ := Tn.obj _ _ st3 b hb
      exact ⟨⟨by rw [upd_ne (fpP b hb)]; exact g1, g2⟩, Heap.lt_size eo⟩
    refine wpAny_builtinsFor (m := X.mg) (by rw [I3.ok.glob]; exact I3.mod.glob.keeps I3.bk) b1 b2 (I3.bk _ _ b5) b6 b7 b8 ?_
    intro h' n1 n2 tk2 hn' hs'
    refine Calls.spliced_nil ?_
    have hsz' : h'.objs.size = h3.objs.size + 1 := by rw [hs'.1, Heap.size_push]
    have keep' : ∀ b o, h3.get? b = some o → h'.get? b = some o := fun b o e => hs'.extBut b o (Nat.ne_of_lt (Heap.lt_size e)) (Heap.get?_push_of_some _ e)
    generalize hgo : genObj s2.gens.size n1 n2 = go
    have ggo : go.cls = .type "generator" ∧ go.data = .fields #[.int s2.gens.size 0, n1, n2] ∧ go.slots = #[] ∧ (∀ h : Heap, (h.push go).get? h.objs.size = some go) := by
      subst hgo
      exact ⟨rfl, rfl, rfl, fun h => Heap.get?_push_size _ rfl⟩
    have keep5 : ∀ b o, h3.get? b = some o → (h'.push go).get? b = some o := fun b o e => Heap.get?_push_of_some _ (keep' b o e)
    have hroom4 : Room (k + 1) X.A.in1.in1.in1.in1 := Room.in1 (Room.in1 (Room.in1 (Room.in1 hr)))
    -- the generator sleeps
    have Zs : Asleep X.prog X.w X.stack (upd H1 P (.tbl ps')) { s2 with heap := h3, toks := tk } fp (fun ys H' => ∃ m', Ext T (upd H1 P (.tbl ps')) m1 H' m' ∧ Ok (X.K, Z) T H' m' S2 ∧ Reps (X.K, Z) H' m' ys ds) X.A.in1.in1.in1.in1 h'.objs.size s2.gens.size
        (.compStart (.GeneratorExp elt (⟨tg, iter, ifs, 0⟩ :: rest) scope gpos) 0 (.ref it) .none (genEnv scope (cloFrom X.env.cells scope.names []) h3.objs.size code builtinsNs X.env))
        { s2 with gens := s2.gens.push (.fresh (.compStart (.GeneratorExp elt (⟨tg, iter, ifs, 0⟩ :: rest) scope gpos) 0 (.ref it) .none (genEnv scope (cloFrom X.env.cells scope.names []) h3.objs.size code builtinsNs X.env))), toks := tk2, heap := h'.push go } := by
      refine ⟨⟨go, n1, n2, ggo.2.2.2 h', ggo.1, ggo.2.1, ggo.2.2.1⟩, Array.getElem?_push_size .., I3.nolimit.keeps keep5, rfl, AllBare.push I1.bare rfl, ?_, ?_⟩
      · show h3.objs.size ≤ (h'.push go).objs.size
        rw [Heap.size_push, hsz']; omega
      intro Sx sw hSx hkw ⟨cS, hcS⟩ hos hba
      have hk2 : ∀ b o, h3.get? b = some o → sw.heap.get? b = some o := fun b o e => hkw b o (keep5 b o e)
      have hSx' : h'.objs.size < Sx := by
        have q : (h'.push go).objs.size ≤ Sx := hSx
        rw [Heap.size_push] at q; omega
      have hga : sw.heap.get? h'.objs.size = some go := hkw _ _ (ggo.2.2.2 h')
      have ggc : ∀ v, go.data ≠ .cell v := fun v z => by rw [ggo.2.1] at z; cases z
      have hnw : sw.heap.Ns h3.objs.size (fun y => if y = ".0" then some (.ref it) else none) := hn'.keeps fun b o e => hkw b o (Heap.get?_push_of_some _ e)
      have IG := gex_inv (s2 := sw) (A' := X.A.in1.in1.in1.in1) (code := code) (pn := [(h'.objs.size, go)]) (pl := [(Sx, lstObj #[] cS)]) I3 GS f3 hroom4.hd I3.ok.frames hnw hk2 hos hba (fun p hp => by
        rcases List.mem_append.mp hp with hp | hp
        · rw [List.mem_singleton.mp hp]
          exact ⟨hga, by show h3.objs.size < h'.objs.size; omega, ggc⟩
        · rw [List.mem_singleton.mp hp]
          exact ⟨hcS, by show h3.objs.size < Sx; omega, fun v z => by cases z⟩)
      obtain ⟨em, W, hg, ht, hem⟩ := body X.A.in1.in1.in1.in1 { s2 with heap := h3, toks := tk } (upd H1 P (.tbl ps')) fp [(h'.objs.size, go)] (cloFrom X.env.cells scope.names []) h3.objs.size code (hroom4.deeper _) (clr_deeper (clr_in1 (clr_in1 (clr_in1 (clr_in1 hcl)))))
      generalize hce : genEnv scope (cloFrom X.env.cells scope.names []) h3.objs.size code builtinsNs X.env = cenv at IG W hg ht hem ⊢
      have hloc : cenv.locals = h3.objs.size := by rw [← hce]; rfl
      have hcells : cenv.cells = cloFrom X.env.cells scope.names [] := by rw [← hce]; rfl
      generalize hX' : gexX X X.A.in1.in1.in1.in1 { s2 with heap := h3, toks := tk } (upd H1 P (.tbl ps')) Ng cenv fp [(h'.objs.size, go)] = X' at IG hg ht hem
      have xp : X'.prog = X.prog ∧ X'.w = X.w ∧ X'.K = X.K ∧ X'.A = X.A.in1.in1.in1.in1.deeper cenv ∧ X'.env = cenv ∧ X'.xe = (fun _ _ => False) ∧ X'.calm = true ∧ X'.pn = [(h'.objs.size, go)] ∧ X'.s_0 = { s2 with heap := h3, toks := tk } ∧ X'.H_0 = upd H1 P (.tbl ps') ∧ X'.outer = X.stack ∧ X'.ex = fp := by
        subst hX'; exact ⟨rfl, rfl, rfl, rfl, rfl, rfl, rfl, rfl, rfl, rfl, rfl, rfl⟩
      obtain ⟨xp1, xp2, xp3, xp4, xp5, xp6, xp7, xp8, xp9, xp10, xp11, xp12⟩ := xp
      have G0 : GI X' Sx [] [] (subO js σ) (upd H1 P (.tbl ps')) sw := ⟨#[], cS, .nil, IG⟩
      have cellLt : ∀ x c, X'.env.cells.lookup x = some c → c < h3.objs.size := fun x c e => by
        rw [xp5, hcells] at e
        obtain ⟨v, z⟩ := I3.cell x c (NdefX.clo_cm hfree e)
        exact z.lt
      have h3S : h3.objs.size < Sx := by omega
      have h3a : h3.objs.size < h'.objs.size := by omega
      have hAp : Apart X' Sx := by
        refine ⟨?_, ?_, fun x c e => ?_⟩
        · rw [xp9]; show h3.objs.size ≤ Sx; omega
        · rw [xp5, hloc]; exact Nat.ne_of_gt (by omega)
        · exact Nat.ne_of_lt (Nat.lt_trans (cellLt x c e) h3S)
      have hpn : ∀ p ∈ X'.pn, p.1 ≠ Sx := fun p hp => by
        rw [xp8] at hp
        rw [List.mem_singleton.mp hp]
        exact Nat.ne_of_lt hSx'
      have hfpG : ∀ b ∈ fp, FpG X' Sx [] b := fun b hb => by
        obtain ⟨q1, q2⟩ := f3 b hb
        refine ⟨?_, ?_, .inl (by rw [xp12]; exact hb), fun x c e => ?_, fun p hp => ?_, ?_⟩
        · rw [xp5, hloc]; exact Nat.ne_of_lt q2
        · show b ∉ frs X'.outer
          rw [xp11]
          intro z
          rcases List.mem_cons.mp (I3.stkSub b z) with y | y
          · exact q1.2.1 y
          · exact q1.2.2.1 y
        · rw [xp5, hcells] at e
          exact q1.2.2.2.2.1 x c (NdefX.clo_cm hfree e)
        · rw [List.append_nil, xp8] at hp
          rw [List.mem_singleton.mp hp]
          exact Nat.ne_of_gt (Nat.lt_trans q2 h3a)
        · exact Nat.ne_of_gt (Nat.lt_trans q2 h3S)
      have pinned : ∀ {ip : List (Addr × Obj)} {ys : List V} {s' : Shared} {σ' : L2.St} {H' : Hp}, GI X' Sx ip ys σ' H' s' → s'.heap.IsGen h'.objs.size s2.gens.size := fun {ip ys s' σ' H'} hI => by
        obtain ⟨acc, cc, _, Jv⟩ := hI
        exact ⟨go, n1, n2, (Jv.pin (h'.objs.size, go) (List.mem_append_left _ (by rw [xp8]; exact List.mem_singleton.mpr rfl))).1, ggo.1, ggo.2.1, ggo.2.2.1⟩
      obtain ⟨J0, hd0⟩ := W.d0
      obtain ⟨J1, hd1⟩ := W.d1
      rw [← xp3] at hg ht hem
      have W' : ClW X'.prog X'.w (.GeneratorExp elt (⟨tg, iter, ifs, 0⟩ :: rest) scope gpos) tg iter ifs 0 em X'.env := by rw [xp1, xp2, xp5]; exact W
      have Tn' : Turn X'.prog X'.w X'.K tg J fp it tn := by rw [xp1, xp2, xp3]; exact Tn
      have stw : tn 0 sw.heap := Tn.keep _ _ _ st3 fun b hb o e => hk2 b o e
      refine seg_imp (R := fun n s₀ r s1 => r = .ok .next ∧ ∃ ys σ' H' m', n + ys.length = sizeLine ∧ GI X' Sx [] ys σ' H' s1 ∧ Ext T (upd H1 P (.tbl ps')) m1 H' m' ∧ Ok (X.K, Z) T H' m' S2 ∧ Reps (X.K, Z) H' m' ys ds) (Y := GY X' Sx) (fun n s₀ r s1' hR => ?_) (fun n s₀ v s1' kap kap' hkk hY => ?_) sizeLine ?_
      · obtain ⟨rfl, ys, σ', H', m', hn, hI, hx', ho', hr'⟩ := hR
        obtain ⟨a1, _, _, acc, cc, ra, ea⟩ := hI.at
        obtain ⟨_, _, _, Jv⟩ := hI
        have jb := Jv.base
        have jo := Jv.os
        have jh := Jv.hok
        rw [xp1, xp2] at jh
        rw [xp9] at jb jo
        rw [xp10, xp12] at jb
        have jb : Un (frs X'.outer) fp (upd H1 P (.tbl ps')) H' h3 s1'.heap := jb
        rw [xp11] at jb
        exact .inl ⟨.inr rfl, H', ys, acc, cc, jo, Jv.bare, jb, jh, a1, ea, ra, by omega, m', hx', ho', hr'⟩
      · obtain ⟨ys, xx, ip, σ', H', hn, h2, hI, h3'⟩ := hY
        obtain ⟨_, _, _, acc, cc, ra, ea⟩ := hI.at
        have hgn := pinned hI
        obtain ⟨_, _, _, Jv⟩ := hI
        have hsz : acc.size = ys.length := by
          have e1 := ra.length
          have e2 : acc.toList.length = acc.size := by simp
          omega
        have jo := Jv.os
        rw [xp9] at jo
        exact ⟨jo, Jv.bare, Jv.nolimit, hgn, ⟨acc, cc, ea, by rw [hsz]; exact hn⟩, fun s' z => hkk _ _ (h3' s' z)⟩
      · have gc : GC X' Sx [] X.A.in1.in1.in1.in1 (.compLoop (.GeneratorExp elt (⟨tg, iter, ifs, 0⟩ :: rest) scope gpos) 0 (.ref it) .none X'.env) [] id := ⟨hpn, (fun p hp => by cases hp), hAp, by rw [over_gex, xp4, xp5], rfl, rfl, rfl⟩
        rw [← xp1, ← xp2, ← xp5]
        rw [← xp1, ← xp2, ← xp5] at hd0 hd1
        refine gx_start (W'.start _) (hd1 _) (W'.quiet _) Tn' stw ?_
        rw [← xp3] at hit3 o3 en3
        refine gx_loop (σ0 := subO js σ) (Z := Z) (res := (G2, S2, ds)) (W'.turn _) (hd0 _) (W'.quiet _) xp6 xp7 hg ht hem Tn' gc hfpG hit3 (fun n ys s₀ s' σ' H' m' hn hI hx' ho' hen' hsl hr' => ?_) cnt 0 sizeLine [] sw sw (subO js σ) (upd H1 P (.tbl ps')) m1 (subO js G) S1 [] e2 (Nat.add_zero _) G0 stw (fun b hb => (f3 b hb).1.1) Ext.refl o3 en3 Sl.refl .nil
        rw [xp3] at ho' hr'
        exact seg_end (.ok .next) ⟨rfl, ys, σ', H', m', hn, hI, hx', ho', hr'⟩
    refine call_tupG (hr.hd) hroom Zs fun Sx s' acc cc H' ys q0 q1 q2 q3 q4 q5 q6 q7 q8 q9 => ?_
    obtain ⟨m', x9, o9, r9⟩ := q9
    have I9 : Inv X pins σ H' s' := I3.call' (ch := fp) q4 q6 q7 q5 fun b hb => ⟨(f3 b hb).1.2.2.2.1, (f3 b hb).1.2.1, (f3 b hb).1.2.2.2.2.1, (f3 b hb).1.2.2.2.2.2⟩
    have hnew : H' s'.heap.objs.size = none := I9.hok.fresh (Nat.le_refl _)
    have Ia : Inv X pins σ (upd H' s'.heap.objs.size (.frz { cls := .type "tuple", data := .seq acc } (.tup ys))) { s' with heap := s'.heap.push { cls := .type "tuple", data := .seq acc } } := by
      refine I9.laid (t' := s'.toks) (fun b o e => Heap.get?_push_of_some _ e) (Nat.le_refl _) ⟨Heap.get?_push_size _ rfl, q3, acc.toList, q2, ?_⟩
      exact ⟨_, Heap.get?_push_size _ rfl, rfl, 0, by simp⟩
    refine ⟨.ref s'.heap.objs.size, _, Ia, rfl, ?_⟩
    exact newTup (Q := Q) o9 hnew rfl r9 f fun v H3 m3 x3' o3' r3' => q v H3 m3 (((x1.trans x3).trans x9).trans x3') o3' r3'
  cases hf : codeAmong gpos ps.toList with
  | none =>
    refine wpAny_genexprCodeX hcode (cd.code hPh hTr) (cd.tab hPh) hf fun c' h' tk hx hge hlt hco' _ htab' _ => ?_
    obtain ⟨y1, y2, y3, y4, y5, y6, y7, y8, y9, y10, _, _, _, _, _, _, _, _, _, htr, _⟩ := hco'
    exact cont _ h' tk _ hx (Nat.le_trans hge (Nat.le_of_lt hlt)) htab'.2 ⟨_, rfl⟩ htr
  | some cv =>
    refine wpAny_genexprCode_hit hcode (cd.code hPh hTr) hf ?_
    exact cont cv s2.heap s2.toks ps (Heap.ExtBut.refl _ _) (Nat.le_refl _) hPh ⟨#[], by simp⟩ hTr
end
end Vw
set_option maxRecDepth 100000
set_option maxHeartbeats 4000000
namespace Vw
open PySem PySem.Spec PyProof.Rows L2
abbrev DF := List D → Sto → Option (D × Sto)
def spD (K : PySem.W.Frag) (T : List Addr) (n : Nat) (f : DF) : Sp := fun vs H Q _ => ∃ (Z : List Addr) (S : Sto) (m : List Addr) (ds : List D) (d : D) (S' : Sto), vs.length = n ∧ Ok (K, Z) T H m S ∧ Reps (K, Z) H m vs ds ∧ f ds S = some (d, S') ∧
  ∀ v H' m', Ext T H m H' m' → Ok (K, Z) T H' m' S' → Rep (K, Z) H' m' v d → Q v H'
/-- a def by its body; N: how many names it has -/
def dDef (N : Nat) (b : DS) : DF := fun ds S => (b (ds.map some ++ List.replicate (N - ds.length) none) S).bind fun r => match r.1 with
  | .rt d => some (d, r.2.2)
  | .nx => some (.non, r.2.2)
  | _ => none
theorem reps_env {K : PySem.W.Frag × List Addr} {H : Hp} {m : List Addr} (n : Nat) : ∀ {vs : List V} {ds : List D}, Reps K H m vs ds → EnvOk K H m (vs.map some ++ List.replicate n none) (ds.map some ++ List.replicate n none) := by
  intro vs ds r
  refine ⟨by simp [r.len], fun i d h => ?_⟩
  by_cases hi : i < ds.length
  · rw [List.getElem?_append_left (by simpa using hi), List.getElem?_map] at h
    cases e : ds[i]? with
    | none => rw [e] at h; cases h
    | some x =>
      rw [e] at h; cases h
      obtain ⟨v, hv, rv⟩ := r.get e
      refine ⟨v, ?_, rv⟩
      have hl := r.len
      rw [List.getElem?_append_left (by simp; omega), List.getElem?_map, hv]; rfl
  · rw [List.getElem?_append_right (by simpa using hi), List.getElem?_replicate] at h
    split at h <;> cases h
theorem fnG_D {CX : CXT} {P : Program} {w : World} {K : PySem.W.Frag} {mg : Str → Option Value} {base : Heap} {k : Nat} {f : Addr} {x qual : Str} {st : Stmt} {fd : FuncData} {N ps : List Str} {T : List Addr} {b : DS}
    (F : Fun K x qual st f fd) (S : FnScope N ps (defScope st))
    (body : ∀ (cdv : Value) (A : Around) (outer : List Env) (s : Shared) (H : Hp) (E : XK), fd.code = cdv → Clr A → Room k (A.deeper (envOfC qual (defScope st) s.heap.objs.size f cdv)) →
      PSs (cxOf CX P w K mg base N qual (defScope st) f cdv A outer s H E) (defBody st) (sD K T b)) :
    FnG P w K mg base CX (k + 1) f fd ps (spD K T ps.length (dDef N.length b)) := by
  refine fnG_of F S (fun vs H Q E h => ?_) (fun cdv A outer s H vs Q E hcd _ hc hr h => ⟨_, body cdv A outer s H E hcd hc hr, ?_⟩)
  · obtain ⟨_, _, _, _, _, _, h, _⟩ := h; exact h
  · obtain ⟨Z, S1, m, ds, d, S', hl, ok, rs, e, q⟩ := h
    unfold dDef at e
    obtain ⟨⟨fl, G', S2⟩, e1, e2⟩ := Option.bind_eq_some_iff.mp e
    have hst : L2.start N vs = vs.map some ++ List.replicate (N.length - ds.length) none := by
      unfold L2.start
      rw [← rs.len]
    rw [hst]
    refine sD.go ok (reps_env _ rs) e1 fun H' m' x' o' => ?_
    cases fl with
    | rt d0 =>
      cases e2
      intro v rv
      exact q v H' m' x' o' rv
    | nx =>
      cases e2
      intro σ' _
      exact q .non H' m' x' o' .non
    | bk => cases e2
    | ct => cases e2
section
variable {X : Cx} {T : List Addr} {k : Nat} {f : Addr} {fd : FuncData} {ps ks : List Str} {x : Str} {p pos : Pos} {e : Expr} {es : List Expr} {kws : List Keyword} {fn : DF} {n : Nat}
def dCallF (n : Nat) (fa : DA) (fn : DF) : DE := fun G S => (fa G S).bind fun p => if p.1.length = n then fn p.1 p.2 else none
theorem run_D {pins : List (Addr × Obj)} {σ : L2.St} {H : Hp} {s : Shared} {Q : VK} {zs : List Value} {vs : List V} {args : Args} {E : Value → Shared → Prop} (F : FnG X.prog X.w X.K X.mg X.base (L2.CX X.prog X.w) k f fd ps (spD X.K T n fn)) (hr : Room k X.A) (hc : Clr X.A)
    (I : Inv X pins σ H s) (hb : BindsTo s fd args (ps.zip zs)) (r : Vals vs zs) (h : spD X.K T n fn vs H Q noE) : codeAny (model X.prog X.w) X.A (.call (.ref f) args) (fun r s' => match r with | .ok (.ret u) => EP X pins σ Q u s' | .ok _ => False | .error e => E e s') s := by
  refine codeAny_mono (F.run X.A X.stack s H args zs vs Q noE hr hc I.env0 hb r h) fun r s' hq => ?_
  cases r with
  | error e => exact (noCX hq).elim
  | ok fl =>
    cases fl with
    | ret u => exact I.after hq
    | next => exact hq
    | brk => exact hq
    | cont => exact hq
theorem rCallF {fa : DA} (F : FnG X.prog X.w X.K X.mg X.base (L2.CX X.prog X.w) k f fd ps (spD X.K T n fn)) (hr : Room k X.A) (hc : Clr X.A) (hg : Gl X x) (hm : X.mg x = some (.ref f)) (hk : PySem.W.keepIn X.K (.ref f) = true) (hn : n = ps.length) (hb : Binds X.K fd ps [])
    (ha : PA X (e :: es) (tA X.K T fa)) (hdb : (x == ("__debug__" : Str)) = false := by decide) (he : starEach (e :: es) X.env = (false, eval e X.env) :: starEach es X.env := by rfl) (hpl : (backTo pos (starEach es X.env)).any (·.1) = false := by rfl) :
    PE X (.Call (.Name x p) (e :: es) [] pos) (tD X.K T (dCallF n fa fn)) := by
  refine ⟨fun pins s σ H Q I ⟨Z, G, S, m, d, S', ok, en, g, q⟩ => ?_⟩
  unfold dCallF at g
  obtain ⟨⟨ds, S1⟩, e1, e2⟩ := Option.bind_eq_some_iff.mp g
  refine wpAny_Call_Name_kw (ld_glob I hg hm ?_ hdb)
  refine PySem.W.callWith_K (h₀ := X.base) I.ok.mod.kin hk (thn (ha.run pos pins s σ H (fun vs H1 => ∃ m1, Ext T H m H1 m1 ∧ Ok (X.K, Z) T H1 m1 S1 ∧ Reps (X.K, Z) H1 m1 vs ds) I (tA.go ok en e1 fun vs H1 m1 x1 o1 _ r1 => ⟨m1, x1, o1, r1⟩)) fun us s1 ⟨vs, H1, I1, r, m1, x1, o1, r1⟩ => ⟨I1.kIn, ?_⟩) he hpl
  split at e2
  case isFalse => cases e2
  rename_i hl
  have hvn : vs.length = n := by rw [r1.len]; exact hl
  have hun : (us ++ []).length = ps.length := by rw [List.append_nil, ← r.length, hvn, hn]
  have b := hb s1 us I1.kIn hun
  rw [List.append_nil] at b
  refine wpAny_call (codeAny_mono (run_D (E := X.xe) F hr hc I1 b r ⟨Z, S1, m1, ds, d, S', hvn, o1, r1, e2, fun v H' m' x' o' r' => q v H' m' (x1.trans x') o' r'⟩) fun r s' hq => ?_)
  cases r with
  | error e => exact hq
  | ok fl => cases fl <;> exact hq
end
end Vw
set_option maxRecDepth 100000
set_option maxHeartbeats 4000000
namespace Vw
open PySem PySem.Spec PyProof.Rows L2
mutual
theorem Rep.swap {K : PySem.W.Frag} {Z : List Addr} {H : Hp} {m : List Addr} {p : Addr} {o o' : HO} (h : H p = some o) (h1 : ∀ xs, o ≠ .tup xs) (h2 : ∀ a u, o ≠ .frz a u) : ∀ {v : V} {d : D}, Rep (K, [p] ++ Z) H m v d → Rep (K, [p] ++ Z) (upd H p o') m v d
  | _, _, .non => .non
  | _, _, .bl b => .bl b
  | _, _, .int i => .int i
  | _, _, .str z => .str z
  | _, _, .tup q r => .tup (by
      rcases q with (q | ⟨a, q⟩) | q
      · exact .inl (.inl (by rw [upd_ne (ne_of q h (fun z => h1 _ z.symm))]; exact q))
      · exact .inl (.inr ⟨a, by rw [upd_ne (ne_of q h (fun z => h2 _ _ z.symm))]; exact q⟩)
      · exact .inr q) (Reps.swap h h1 h2 r)
  | _, _, .lst q n z r => .lst (by rw [upd_ne (fun e => z (List.mem_append_left _ (List.mem_singleton.mpr e)))]; exact q) n z (Reps.swap h h1 h2 r)
  | _, _, .dic q n z e r => .dic (by
      have ne := fun e => z (List.mem_append_left _ (List.mem_singleton.mpr e))
      rcases q with q | ⟨a, q⟩
      · exact .inl (by rw [upd_ne ne]; exact q)
      · exact .inr ⟨a, by rw [upd_ne ne]; exact q⟩) n z e (Reps.swap h h1 h2 r)
  | _, _, .loc q => .loc q
  | _, _, .scr q n z r => .scr (by
      have ne := fun e => z (List.mem_append_left _ (List.mem_singleton.mpr e))
      rcases q with q | ⟨a, q⟩
      · exact .inl (by rw [upd_ne ne]; exact q)
      · exact .inr ⟨a, by rw [upd_ne ne]; exact q⟩) n z (Reps.swap h h1 h2 r)
  | _, _, .scrK q r => .scrK q (Reps.swap h h1 h2 r)
theorem Reps.swap {K : PySem.W.Frag} {Z : List Addr} {H : Hp} {m : List Addr} {p : Addr} {o o' : HO} (h : H p = some o) (h1 : ∀ xs, o ≠ .tup xs) (h2 : ∀ a u, o ≠ .frz a u) : ∀ {vs : List V} {ds : List D}, Reps (K, [p] ++ Z) H m vs ds → Reps (K, [p] ++ Z) (upd H p o') m vs ds
  | _, _, .nil => .nil
  | _, _, .cons r t => .cons (Rep.swap h h1 h2 r) (Reps.swap h h1 h2 t)
end
theorem Ok.swap {K : PySem.W.Frag} {Z : List Addr} {T : List Addr} {H : Hp} {m : List Addr} {S : Sto} {p : Addr} {o o' : HO} (ok : Ok (K, [p] ++ Z) T H m S) (h : H p = some o) (h1 : ∀ xs, o ≠ .tup xs) (h2 : ∀ a u, o ≠ .frz a u) (h3 : ∀ ps, o ≠ .tbl ps) (h4 : TupOk o' := by first | exact trivial | assumption | rfl) : Ok (K, [p] ++ Z) T (upd H p o') m S := by
  have np : p ∉ m := (ok.hid p (List.mem_append_left _ (List.mem_singleton.mpr rfl))).1
  refine ⟨ok.nd, ok.len, fun n a ds e1 e2 => ?_, fun n a ks ds e1 e2 => ?_, fun P hP => ?_, fun a ha => ⟨(ok.hid a ha).1, ?_⟩, ok.tp.upd h4⟩
  · obtain ⟨us, q, r⟩ := ok.lst n a ds e1 e2
    have ne : a ≠ p := fun z => np (by rw [← z]; exact List.mem_of_getElem? e1)
    exact ⟨us, by rw [upd_ne ne]; exact q, r.swap h h1 h2⟩
  · obtain ⟨us, q, e, r⟩ := ok.dic n a ks ds e1 e2
    have ne : a ≠ p := fun z => np (by rw [← z]; exact List.mem_of_getElem? e1)
    exact ⟨us, by rw [upd_ne ne]; exact q, e, r.swap h h1 h2⟩
  · obtain ⟨ps, q, r⟩ := ok.tab P hP
    exact ⟨ps, by rw [upd_ne (ne_of q h (fun z => h3 _ z.symm))]; exact q, r⟩
  · by_cases e : a = p
    · rw [e, upd_same]; intro z; cases z
    · rw [upd_ne e]; exact (ok.hid a ha).2
theorem mergeK_new : ∀ (more kvs : List (Key × V)), (kvs.map (·.1) ++ more.map (·.1)).Nodup → mergeK kvs more = kvs ++ more
  | [], kvs, _ => by simp [mergeK]
  | (k, v) :: r, kvs, h => by
    have hn : valV kvs k = none := by
      cases e : valV kvs k with
      | none => rfl
      | some x =>
        exfalso
        unfold valV at e
        obtain ⟨kv, e1, _⟩ := Option.map_eq_some_iff.mp e
        have h1 := List.find?_some e1
        have h2 := List.mem_of_find?_eq_some e1
        have h1 : kv.1 = k := of_decide_eq_true h1
        rw [List.nodup_append] at h
        exact h.2.2 kv.1 (List.mem_map.mpr ⟨kv, h2, rfl⟩) k (by simp) h1
    show mergeK (putK kvs k v) r = _
    rw [putK_new v hn, mergeK_new r (kvs ++ [(k, v)]) (by simpa using h)]
    simp
section
variable {X : Cx} {T : List Addr}
structure PPD (X : Cx) (T : List Addr) (pos : Pos) (keys : List (Option Expr)) (values : List Expr) (ks : List Key) (f : DA) : Prop where
  ex : ∃ trs, PPs X pos keys values trs ∧ ∀ σ H (Q : List (V × V) → Hp → Prop), tA X.K T f σ H (fun vs H' => Q ((ks.map kV).zip vs) H') → tPairs trs σ H Q
theorem rpNil {pos : Pos} : PPD X T pos [] [] [] dNil := ⟨[], pps_nil, fun σ H Q ⟨Z, G, S, m, ds, S', ok, en, f, q⟩ => by
  cases f
  exact q [] H m Ext.refl ok .nil⟩
theorem rpCons {pos : Pos} {k v : Expr} {keys : List (Option Expr)} {vals : List Expr} {κ : Key} {κs : List Key} {fv : DE} {f : DA} (hk : PE X k (tC (kV κ))) (hv : PE X v (tD X.K T fv)) (hr : PPD X T pos keys vals κs f) : PPD X T pos (some k :: keys) (v :: vals) (κ :: κs) (dCons fv f) := by
  obtain ⟨trs, h1, h2⟩ := hr.ex
  refine ⟨_, pps_cons hk hv h1, fun σ H Q ⟨Z, G, S, m, ds, S', ok, en, e, q⟩ => ?_⟩
  unfold dCons at e
  obtain ⟨⟨d, S1⟩, e1, e⟩ := Option.bind_eq_some_iff.mp e
  obtain ⟨⟨ds', S2⟩, e2, e⟩ := Option.bind_eq_some_iff.mp e
  cases e
  refine (show tC (kV κ) σ H _ from ?_)
  refine tD.go ok en e1 fun w H1 m1 x1 o1 en1 r1 => ?_
  refine h2 σ H1 _ ?_
  exact tA.go o1 en1 e2 fun ws H2 m2 x2 o2 _ r2 => q (w :: ws) H2 m2 (x1.trans x2) o2 (.cons (r1.mono x2 o1) r2)
def dDisp (c : Bool) (ks : List Key) (f : DA) : DE := fun G S => (f G S).bind fun p => if p.1.length = ks.length then okDic c ks p.1 p.2 else none
theorem zip_keys {vs : List V} {ks : List Key} : (ks.map kV).zip vs = (ks.zip vs).map fun kv => (kV kv.1, kv.2) := by
  rw [List.zip_map_left]
  rfl
theorem rDisp {pos : Pos} {keys : List (Option Expr)} {vals : List Expr} {κs : List Key} {c : Bool} {f : DA} (h : PPD X T pos keys vals κs f) (nd : κs.Nodup) (hall : keys.all (·.isSome) = true) (hl : keys.length = vals.length) (h0 : keys ≠ []) (h15 : keys.length ≤ 15) (hk15 : κs.length ≤ 15) :
    PE X (.Dict keys vals pos) (tD X.K T (dDisp c κs f)) := by
  obtain ⟨trs, h1, h2⟩ := h.ex
  refine peImp (pe_disp h1 hall hl h0 h15) fun σ H Q ⟨Z, G, S, m, d, S', ok, en, e, q⟩ => ?_
  unfold dDisp at e
  obtain ⟨⟨ds, S1⟩, e1, e2⟩ := Option.bind_eq_some_iff.mp e
  split at e2
  case isFalse => cases e2
  rename_i hlen
  intro p hp
  refine h2 σ (upd H p (.dK [])) _ ?_
  refine tA.go (ok.aside hp) (en.aside hp) e1 fun vs H1 m1 x1 o1 _ r1 => ?_
  have hid := o1.hid p (List.mem_append_left _ (List.mem_singleton.mpr rfl))
  have nm0 : p ∉ m := fun z => (ok.aside (o := .dK []) hp).hid p (List.mem_append_left _ (List.mem_singleton.mpr rfl)) |>.1 z
  have nT : p ∉ T := fun z => by
    obtain ⟨ps, q1, _⟩ := ok.tab p z
    rw [hp] at q1; cases q1
  have hH1 : H1 p = some (.dK []) := x1.old p _ upd_same nm0 nT
  have hvl : vs.length = κs.length := by rw [r1.len]; exact hlen
  have hzl : (κs.zip vs).length = κs.length := by rw [List.length_zip, hvl, Nat.min_self]
  have hz1 : (κs.zip vs).map (·.1) = κs := by rw [List.map_fst_zip]; omega
  have hz2 : (κs.zip vs).map (·.2) = vs := by rw [List.map_snd_zip]; omega
  refine ⟨hH1, κs.zip vs, zip_keys, by rw [hzl]; exact hk15, ?_⟩
  rw [mergeK_new _ _ (by simpa [hz1] using nd), List.nil_append]
  have nz : p ∉ Z := fun z => (ok.hid p z).2 hp
  have o2 : Ok (X.K, [p] ++ Z) T (upd H1 p (.lst [])) m1 S1 := o1.swap hH1 (fun _ z => by cases z) (fun _ _ z => by cases z) (fun _ z => by cases z)
  have r2 : Reps (X.K, [p] ++ Z) (upd H1 p (.lst [])) m1 vs ds := r1.swap hH1 (fun _ z => by cases z) (fun _ _ z => by cases z)
  have xH : ∀ (o : HO) (m2 : List Addr), (m2 = m1 ∨ m2 = m1 ++ [p]) → Ext T H m (upd H1 p o) m2 := fun o m2 hm2 => by
    have pre1 : ∃ more, m2 = m ++ more := by
      obtain ⟨r, er⟩ := x1.pre
      rcases hm2 with rfl | rfl
      · exact ⟨r, er⟩
      · exact ⟨r ++ [p], by rw [er, List.append_assoc]⟩
    refine ⟨pre1, fun a u ea hn ht => ?_, fun a ha hn ht => ?_⟩
    · have ne : a ≠ p := fun z => by rw [z, hp] at ea; cases ea
      rw [upd_ne ne]
      exact x1.old a u (by rw [upd_ne ne]; exact ea) hn ht
    · by_cases e : a = p
      · rw [e]; exact hp
      · have ha1 : a ∈ m1 := by
          rcases hm2 with rfl | rfl
          · exact ha
          · rcases List.mem_append.mp ha with z | z
            · exact z
            · exact absurd (List.mem_singleton.mp z) e
        have := x1.new a ha1 hn ht
        rwa [upd_ne e] at this
  unfold okDic at e2
  split at e2
  case isFalse => cases e2
  cases c with
  | true =>
    cases e2
    have o3 := o2.nowCell upd_same .nil hid.1 nz
    have r3 : Reps (X.K, Z) (upd H1 p (.lst [])) (m1 ++ [p]) vs ds := Reps.nowCell r2
    have e4 : (m1 ++ [p])[m1.length]? = some p := by simp
    have o4 := o3.putDic (kvs := κs.zip vs) (ks := κs) (ds := ds) e4 hz1 (by rw [hz2]; exact r3)
    rw [upd_upd] at o4
    have es : (S1 ++ [Cell.lst []]).set m1.length (Cell.dic κs ds) = S1 ++ [Cell.dic κs ds] := by
      rw [o1.len, List.set_append_right _ _ (Nat.le_refl _)]
      simp
    rw [es] at o4
    exact q _ _ (m1 ++ [p]) (xH _ _ (.inr rfl)) o4 (.loc (by rw [← o1.len]; simp))
  | false =>
    cases e2
    have o3 : Ok (X.K, [p] ++ Z) T (upd H1 p (.dK (κs.zip vs))) m1 S1 := o1.swap hH1 (fun _ z => by cases z) (fun _ _ z => by cases z) (fun _ z => by cases z)
    have r3 : Reps (X.K, [p] ++ Z) (upd H1 p (.dK (κs.zip vs))) m1 vs ds := r1.swap hH1 (fun _ z => by cases z) (fun _ _ z => by cases z)
    exact q _ _ m1 (xH _ _ (.inl rfl)) o3.bare (.dic (.inl upd_same) hid.1 nz hz1 (by rw [hz2]; exact r3.bare))
def cutD (xs : List D) (lo hi : Option Int) : List D := (xs.drop (HT.sIx xs.length 0 lo)).take (HT.sIx xs.length xs.length hi - HT.sIx xs.length 0 lo)
abbrev DO := Gam → Sto → Option (Option Int × Sto)
def tOD (K : PySem.W.Frag) (T : List Addr) (f : DO) : TO := fun σ H Q => ∃ (Z : List Addr) (G : Gam) (S : Sto) (m : List Addr) (o : Option Int) (S' : Sto), Ok (K, Z) T H m S ∧ EnvOk (K, Z) H m σ G ∧ f G S = some (o, S') ∧ ∀ H' m', Ext T H m H' m' → Ok (K, Z) T H' m' S' → Q o H'
theorem poImp {e : Option Expr} {t t' : TO} (h : PO X e t) (w : ∀ σ H Q, t' σ H Q → t σ H Q) : PO X e t' := ⟨fun pins s σ H Q I q => h.run pins s σ H Q I (w σ H Q q)⟩
def doNone : DO := fun _ S => some (none, S)
theorem roNone : PO X none (tOD X.K T doNone) := poImp po_none fun σ H Q ⟨Z, G, S, m, o, S', ok, en, f, q⟩ => by
  cases f
  exact q H m Ext.refl ok
def doSome (f : DE) : DO := fun G S => (f G S).bind fun p => match p.1 with | .int i => some (some i, p.2) | _ => none
theorem roSome {e : Expr} {f : DE} (h : PE X e (tD X.K T f)) : PO X (some e) (tOD X.K T (doSome f)) := poImp (po_some h) fun σ H Q ⟨Z, G, S, m, o, S', ok, en, f, q⟩ => by
  unfold doSome at f
  obtain ⟨⟨d, S1⟩, e1, f⟩ := Option.bind_eq_some_iff.mp f
  refine tD.go ok en e1 fun v H1 m1 x1 o1 en1 r1 => ?_
  cases d <;> cases f
  cases r1
  exact ⟨_, rfl, q H1 m1 x1 o1⟩
def lstS (S : Sto) : D → Option (List D)
  | .lst xs => some xs
  | .scr xs => some xs
  | .loc n => match S[n]? with | some (.lst xs) => some xs | _ => none
  | _ => none
theorem lstS_ok {K : PySem.W.Frag × List Addr} {T : List Addr} {H : Hp} {m : List Addr} {S : Sto} {v : V} {d : D} {ds : List D} (ok : Ok K T H m S) (r : Rep K H m v d) (e : lstS S d = some ds) : ∃ a xs, v = .ref a ∧ SqL K.1 H a xs ∧ Reps K H m xs ds := by
  unfold lstS at e
  split at e
  · cases e
    cases r with
    | lst h n _ rs => exact ⟨_, _, rfl, .inl (.inl h), rs⟩
  · cases e
    cases r with
    | scr h _ _ rs => exact ⟨_, _, rfl, .inl h, rs⟩
    | scrK h rs =>
      rcases h with (h | ⟨o, h⟩) | h
      · cases h
      · cases h
      · exact ⟨_, _, rfl, .inr h, rs⟩
  · split at e
    · rename_i es
      cases e
      cases r with
      | loc h =>
        obtain ⟨xs, q, rs⟩ := ok.lst _ _ _ h es
        exact ⟨_, _, rfl, .inl (.inl q), rs⟩
    · cases e
  · cases e
def dSlL (c : Bool) (fe : DE) (fl fh : DO) : DE := fun G S => (fe G S).bind fun p => (fl G p.2).bind fun l => (fh G l.2).bind fun h => (lstS h.2 p.1).bind fun xs => okLst c (cutD xs l.1 h.1) h.2
theorem cut_reps {K : PySem.W.Frag × List Addr} {H : Hp} {m : List Addr} {vs : List V} {ds : List D} (r : Reps K H m vs ds) (lo hi : Option Int) : Reps K H m (cutV vs lo hi) (cutD ds lo hi) := by
  unfold cutV cutD
  rw [r.len]
  exact (r.drop _).take _
theorem tD.mono {K : PySem.W.Frag} {f : DE} {σ : L2.St} {H : Hp} {Q Q' : VK} (h : tD K T f σ H Q) (w : ∀ v H, Q v H → Q' v H) : tD K T f σ H Q' := by
  obtain ⟨Z, G, S, m, d, S', ok, en, f, q⟩ := h
  exact ⟨Z, G, S, m, d, S', ok, en, f, fun v H' m' x o r => w v H' (q v H' m' x o r)⟩
def dYes : DT := fun _ S => some (true, S)
theorem rtNil {X : Cx} : PTs X [] (tB X.K T dYes) := ⟨fun pins s σ H Q I ⟨Z, G, S, m, b, S', ok, en, f, q⟩ => by
  cases f
  exact pts_nil.run pins s σ H Q I (q H m Ext.refl ok)⟩
theorem rtOne {X : Cx} {c : Expr} {t : DT} (h : PT X c (tB X.K T t)) : PTs X [c] (tB X.K T t) := pts_one h
theorem rLc {elt tg iter : Expr} {ifs : List Expr} {scope : Scope} {own : List (Str × Nat)} {pos : Pos} {c : Bool} {w : DI} {g : DG} {t : DT} {f : DE} (hc : X.calm = true) (hN : X.N.Nodup) (hi : PI X tg iter (iD X.K T w)) (ok : BlkOk X.N X.env.scope scope own)
    (hg : ∀ (s : Shared) (H : Hp) (C : Addr) (cl : List (Str × Addr)) (fp : List Addr), PG (X.blk s H scope (compEnvC scope cl C X.env) fp) tg (gD X.K T (own.map (·.2)) g)) (ht : ∀ (s : Shared) (H : Hp) (C : Addr) (cl : List (Str × Addr)) (fp : List Addr), PTs (X.blk s H scope (compEnvC scope cl C X.env) fp) ifs (tB X.K T t))
    (he : ∀ (s : Shared) (H : Hp) (C : Addr) (cl : List (Str × Addr)) (fp : List Addr), PE (X.blk s H scope (compEnvC scope cl C X.env) fp) elt (tD X.K T f)) (hs : ∀ x, foldedSetIterable iter X.env x = pure x := by intro _; rfl) :
    PE X (.ListComp elt [⟨tg, iter, ifs, 0⟩] scope pos) (tD X.K T (dLc c (own.map (·.2)) w g t f)) :=
  peImp (pe_lc hc hN hi ok hg ht he hs) openLc
theorem rSetLc {i : Nat} {y : Str} {py : Pos} {elt tg iter : Expr} {ifs : List Expr} {scope : Scope} {own : List (Str × Nat)} {pos spos : Pos} {c : Bool} {w : DI} {g : DG} {t : DT} {f : DE} (hc : X.calm = true) (hN : X.N.Nodup) (hy : X.N[i]? = some y) (hyl : X.env.scope.names.lookup y = some .local)
    (hsw : swapsWith (.ListComp elt [⟨tg, iter, ifs, 0⟩] scope pos) (some (.Name y py)) spos.line X.env = pure true) (hi : PI X tg iter (iD X.K T w)) (ok : BlkOk X.N X.env.scope scope own)
    (hg : ∀ (s : Shared) (H : Hp) (C : Addr) (cl : List (Str × Addr)) (fp : List Addr), PG (X.blk s H scope (compEnvC scope cl C X.env) fp) tg (gD X.K T (own.map (·.2)) g)) (ht : ∀ (s : Shared) (H : Hp) (C : Addr) (cl : List (Str × Addr)) (fp : List Addr), PTs (X.blk s H scope (compEnvC scope cl C X.env) fp) ifs (tB X.K T t))
    (he : ∀ (s : Shared) (H : Hp) (C : Addr) (cl : List (Str × Addr)) (fp : List Addr), PE (X.blk s H scope (compEnvC scope cl C X.env) fp) elt (tD X.K T f)) (hs : ∀ x, foldedSetIterable iter X.env x = pure x := by intro _; rfl) :
    PS X (.Assign [.Name y py] (.ListComp elt [⟨tg, iter, ifs, 0⟩] scope pos) spos) (sD X.K T (dAsg (dLc c (own.map (·.2)) w g t f) (dgName i))) := by
  refine rAsg (I := [i]) (psImp (ps_setLc hc hN hy hyl hsw hi ok hg ht he hs) fun D σ H h => ?_)
  refine openLc σ H _ (tD.mono h fun v H' hv => ?_)
  obtain ⟨Z, d, G, S, m, G', S', ok, en, r, f, q⟩ := hv
  cases f
  exact q _ H' m Ext.refl ok (en.set r) (Sl.set (List.mem_singleton.mpr rfl))
end
end Vw
set_option maxRecDepth 100000
set_option maxHeartbeats 4000000
namespace Vw
open PySem PySem.Spec PyProof.Rows L2
/-- what every frame here has -/
structure Fit (X : Cx) (k : Nat) : Prop where
  calm : X.calm = true
  nd : X.N.Nodup
  room : Room k X.A
  clr : Clr X.A
section
variable {X : Cx} {T : List Addr} {k : Nat} {a b c e o : Expr} {es : List Expr} {pos p apos cpos : Pos} {fa fb fc fe fo : DE} {fs : DA} {ta tb : DT}
theorem Fit.u (F : Fit X k) : X.A.units + 65 < cLine := by have := F.room.un; omega
theorem Fit.u64 (F : Fit X k) : X.A.units + 64 < cLine := by have := F.room.un; omega
theorem Fit.u1 (F : Fit X k) : X.A.units + 1 < cLine := by have := F.room.un; omega
theorem eName (i : Nat) {x : Str} (hN : X.N[i]? = some x) (hv : Vis X.env.scope x) (hd : (x == ("__debug__" : Str)) = false := by decide) (hcd : (x == ("__classdict__" : Str)) = false := by decide) : PE X (.Name x pos) (tD X.K T (dVar i)) := rVar (pe_var hN hv hd hcd)
theorem eInt {i : Int} {j : Nat} : PE X (.Constant (.int i) j pos) (tD X.K T (dCon (.int i))) := rCon pe_int fun _ _ _ _ _ => .int _
theorem eStr {x : Str} {j : Nat} : PE X (.Constant (.str x) j pos) (tD X.K T (dCon (.str x))) := rCon pe_str fun _ _ _ _ _ => .str _
theorem eBl {x : Bool} {j : Nat} : PE X (.Constant (.bool x) j pos) (tD X.K T (dCon (.bl x))) := rCon pe_bl fun _ _ _ _ _ => .bl _
theorem eNon {j : Nat} : PE X (.Constant .none j pos) (tD X.K T (dCon .non)) := rCon pe_non fun _ _ _ _ _ => .non
theorem eAdd (l : Bool) (ha : PE X a (tD X.K T fa)) (hb : PE X b (tD X.K T fb)) : PE X (.BinOp a .Add b pos) (tD X.K T (dBin (opAdd l) fa fb)) := rBin (pe_op opr_add ha hb) rule_add
theorem eSub (ha : PE X a (tD X.K T fa)) (hb : PE X b (tD X.K T fb)) : PE X (.BinOp a .Sub b pos) (tD X.K T (dBin opSub fa fb)) := rBin (pe_op op_sub ha hb) rule_sub
theorem eMod (ha : PE X a (tD X.K T fa)) (hb : PE X b (tD X.K T fb)) : PE X (.BinOp a .Mod b pos) (tD X.K T (dBin opMod fa fb)) := rBin (pe_op op_mod ha hb) rule_mod
theorem eDiv (ha : PE X a (tD X.K T fa)) (hb : PE X b (tD X.K T fb)) : PE X (.BinOp a .FloorDiv b pos) (tD X.K T (dBin opDiv fa fb)) := rBin (pe_op op_fdiv ha hb) rule_div
def opNeg : D → Sto → Option (D × Sto) := fun d S => match d with | .int i => some (.int (-i), S) | _ => none
theorem eNeg (ha : PE X a (tD X.K T fa)) : PE X (.UnaryOp .USub a pos) (tD X.K T (dUn opNeg fa)) := rUn (pe_un un_neg ha) fun Z H m S x c z S' Q ok r f q => by
  unfold opNeg at f
  split at f
  · cases f; cases r
    exact ⟨_, rfl, q _ H m Ext.refl ok (.int _)⟩
  · cases f
theorem eEq (F : Fit X k) (ha : PE X a (tD X.K T fa)) (hb : PE X b (tD X.K T fb)) : PE X (.Compare a [.Eq] [b] pos) (tD X.K T (dBin (opEq false) fa fb)) := rBin (pe_cmpR (opOr op_eq (op_eqD F.u64)) ha hb (nomark _)) rule_eq
theorem eLt (ha : PE X a (tD X.K T fa)) (hb : PE X b (tD X.K T fb)) : PE X (.Compare a [.Lt] [b] pos) (tD X.K T (dBin (opCmp fun i j => decide (i < j)) fa fb)) := rBin (pe_cmpR op_lt ha hb (nomark _)) rule_cmp
theorem eIn (F : Fit X k) (ha : PE X a (tD X.K T fa)) (hb : PE X b (tD X.K T fb)) (hm : behindInMarks .In b = false) : PE X (.Compare a [.In] [b] pos) (tD X.K T (dBin (opIn false) fa fb)) := rBin (pe_cmpR (opOr op_in_seq (opOr (op_inD F.u) (op_inT F.u))) ha hb hm) rule_in
theorem tEq (F : Fit X k) (ha : PE X a (tD X.K T fa)) (hb : PE X b (tD X.K T fb)) : PT X (.Compare a [.Eq] [b] pos) (tB X.K T (dCmpT (opEq false) fa fb)) := rCmpT (pt_cmpR (opOr op_eq (op_eqD F.u64)) ha hb (nomark _)) rule_eq
theorem tNe (F : Fit X k) (ha : PE X a (tD X.K T fa)) (hb : PE X b (tD X.K T fb)) : PT X (.Compare a [.NotEq] [b] pos) (tB X.K T (dCmpT (opEq true) fa fb)) := rCmpT (pt_cmpR (opOr op_ne (op_neD F.u64)) ha hb (nomark _)) rule_ne
theorem tLt (ha : PE X a (tD X.K T fa)) (hb : PE X b (tD X.K T fb)) : PT X (.Compare a [.Lt] [b] pos) (tB X.K T (dCmpT (opCmp fun i j => decide (i < j)) fa fb)) := rCmpT (pt_cmpR op_lt ha hb (nomark _)) rule_cmp
theorem tGt (ha : PE X a (tD X.K T fa)) (hb : PE X b (tD X.K T fb)) : PT X (.Compare a [.Gt] [b] pos) (tB X.K T (dCmpT (opCmp fun i j => decide (j < i)) fa fb)) := rCmpT (pt_cmpR op_gt ha hb (nomark _)) rule_cmp
theorem tGe (ha : PE X a (tD X.K T fa)) (hb : PE X b (tD X.K T fb)) : PT X (.Compare a [.GtE] [b] pos) (tB X.K T (dCmpT (opCmp fun i j => decide (j ≤ i)) fa fb)) := rCmpT (pt_cmpR op_ge ha hb (nomark _)) rule_cmp
theorem tIn (F : Fit X k) (ha : PE X a (tD X.K T fa)) (hb : PE X b (tD X.K T fb)) (hm : behindInMarks .In b = false) : PT X (.Compare a [.In] [b] pos) (tB X.K T (dCmpT (opIn false) fa fb)) := rCmpT (pt_cmpR (opOr op_in_seq (opOr (op_inD F.u) (op_inT F.u))) ha hb hm) rule_in
theorem tNotIn (F : Fit X k) (ha : PE X a (tD X.K T fa)) (hb : PE X b (tD X.K T fb)) (hm : behindInMarks .NotIn b = false) : PT X (.Compare a [.NotIn] [b] pos) (tB X.K T (dCmpT (opIn true) fa fb)) := rCmpT (pt_cmpR (opOr op_notIn_seq (opOr (op_notInD F.u) (op_notInT F.u))) ha hb hm) rule_notIn
/-- a name, a call as a test: a truth -/
theorem tVal (ha : PE X a (tD X.K T fa)) (he : ∀ whole, isTrue a X.env whole = (do let v ← whole; standAt a.pos; holding [v] (truthy v))) : PT X a (tB X.K T (dTst fa)) := rTst ha he
theorem wAnd1 (h : PT X a (tB X.K T ta)) : PW X (.BoolOp .And [a] pos) (tB X.K T ta) := pw_and1 h
theorem wOr1 (h : PT X a (tB X.K T ta)) : PW X (.BoolOp .Or [a] pos) (tB X.K T ta) := pw_or1 h
theorem wAnd (h : PT X a (tB X.K T ta)) (h2 : PW X (.BoolOp .And (b :: es) pos) (tB X.K T tb)) : PW X (.BoolOp .And (a :: b :: es) pos) (tB X.K T (dAnd ta tb)) := pwImp (pw_and h h2) openAnd
theorem wOr (h : PT X a (tB X.K T ta)) (h2 : PW X (.BoolOp .Or (b :: es) pos) (tB X.K T tb)) : PW X (.BoolOp .Or (a :: b :: es) pos) (tB X.K T (dOr ta tb)) := pwImp (pw_or h h2) openOr
def opIxS : D → D → Sto → Option (D × Sto) := fun x i S => match seqD S x, i with
  | some xs, .int k => (atI xs k).map fun d => (d, S)
  | _, _ => match x, i with
    | .str z, .int k => if z.length ≤ lim then (atI z.cps.toList k).map fun c => (.str ⟨#[c]⟩, S) else none
    | _, _ => none
def opIxD : D → D → Sto → Option (D × Sto) := fun x i S => (dicD S x).bind fun p => (keyOf i).bind fun k => (valD p.1 p.2 k).map fun d => (d, S)
theorem opIx_or {x i : D} {S S' : Sto} {z : D} (h : opIx x i S = some (z, S')) : opIxS x i S = some (z, S') ∨ opIxD x i S = some (z, S') := by
  unfold opIx at h
  split at h
  · rename_i xs k' e1
    refine .inl ?_
    unfold opIxS
    rw [e1]; exact h
  · rename_i hno
    split at h
    · refine .inl ?_
      unfold opIxS
      rename_i z' k'
      cases e : seqD S (.str z') with
      | none => exact h
      | some xs => exact absurd rfl (hno xs k' e)
    · exact .inr h
theorem rule_ixS {K : PySem.W.Frag} : Rule2 K T (rIx K) opIxS := by
  intro Z H m S x y a b z S' Q ok rx ry f q
  unfold opIxS at f
  split at f
  · rename_i xs k e1
    obtain ⟨d, e2, f⟩ := Option.map_eq_some_iff.mp f
    cases f
    cases ry
    obtain ⟨p, vs, rfl, hq, rs⟩ := seqD_ok ok rx e1
    obtain ⟨v, e3, r⟩ := atI_reps rs e2
    rcases hq with hq | hq
    · exact .inl ⟨_, _, _, _, rfl, rfl, hq, e3, q _ H m Ext.refl ok r⟩
    · exact .inr (.inl ⟨_, _, _, _, rfl, rfl, hq, e3, q _ H m Ext.refl ok r⟩)
  · split at f
    · split at f
      · rename_i hl
        obtain ⟨c, e2, f⟩ := Option.map_eq_some_iff.mp f
        cases f
        cases rx; cases ry
        exact .inr (.inr ⟨_, _, _, rfl, rfl, lim_le hl, e2, q _ H m Ext.refl ok (.str _)⟩)
      · cases f
    · cases f
theorem rule_ixD {K : PySem.W.Frag} : Rule2 K T rDG opIxD := by
  intro Z H m S x y a b z S' Q ok rx ry f q
  unfold opIxD at f
  obtain ⟨⟨ks, ds⟩, e1, f⟩ := Option.bind_eq_some_iff.mp f
  obtain ⟨k, e2, f⟩ := Option.bind_eq_some_iff.mp f
  obtain ⟨d, e3, f⟩ := Option.map_eq_some_iff.mp f
  cases f
  obtain ⟨p, kvs, rfl, h, rfl, rs⟩ := dicD_ok ok rx e1
  obtain ⟨v, e4, r⟩ := valV_reps rs e3
  have ey : y = kV k := by
    unfold keyOf at e2
    split at e2 <;> first | (cases e2; cases ry; rfl) | cases e2
  exact ⟨p, v, rfl, .inl ⟨kvs, k, h, ey, e4.symm⟩, q _ H m Ext.refl ok r⟩
theorem eIx (F : Fit X k) (ha : PE X a (tD X.K T fa)) (hb : PE X b (tD X.K T fb)) (hs : PlainIx b) : PE X (.Subscript a b pos) (tD X.K T (dBin opIx fa fb)) := by
  refine peImp (peOr (pe_ix ix_seq ha hb hs) (pe_dget F.u1 ha hb hs)) fun σ H Q h => ?_
  obtain ⟨Z, G, S, m, d, S', ok, en, f, q⟩ := h
  have f0 := f
  unfold dBin at f
  obtain ⟨⟨x, S1⟩, e1, f⟩ := Option.bind_eq_some_iff.mp f
  obtain ⟨⟨y, S2⟩, e2, f⟩ := Option.bind_eq_some_iff.mp f
  rcases opIx_or f with f | f
  · refine .inl (opened2 (op := opIxS) rule_ixS σ H Q ⟨Z, G, S, m, d, S', ok, en, ?_, q⟩)
    unfold dBin
    rw [e1]; show (fb G S1).bind _ = _
    rw [e2]; exact f
  · refine .inr (opened2 (r := rDG) (op := opIxD) rule_ixD σ H Q ⟨Z, G, S, m, d, S', ok, en, ?_, q⟩)
    unfold dBin
    rw [e1]; show (fb G S1).bind _ = _
    rw [e2]; exact f
section
variable (hg : ∀ {x : Str}, Gl X x → Gl X x)
theorem eLen (m : X.mg "len" = none) (g : Gl X "len") (ha : PA X (e :: es) (tA X.K T fs)) (he : starEach (e :: es) X.env = (false, eval e X.env) :: starEach es X.env := by rfl) (hpl : (backTo pos (starEach es X.env)).any (·.1) = false := by rfl) : PE X (.Call (.Name "len" p) (e :: es) [] pos) (tD X.K T (dCall opLen fs)) := rCall (pe_callB call_len g m boot_len ha (by decide) (by decide) he hpl) rule_len
theorem eAbs (m : X.mg "abs" = none) (g : Gl X "abs") (ha : PA X (e :: es) (tA X.K T fs)) (he : starEach (e :: es) X.env = (false, eval e X.env) :: starEach es X.env := by rfl) (hpl : (backTo pos (starEach es X.env)).any (·.1) = false := by rfl) : PE X (.Call (.Name "abs" p) (e :: es) [] pos) (tD X.K T (dCall opAbs fs)) := rCall (pe_callB call_abs g m (by decide +kernel) ha (by decide) (by decide) he hpl) rule_abs
theorem eIntOf (m : X.mg "int" = none) (g : Gl X "int") (ha : PA X (e :: es) (tA X.K T fs)) (he : starEach (e :: es) X.env = (false, eval e X.env) :: starEach es X.env := by rfl) (hpl : (backTo pos (starEach es X.env)).any (·.1) = false := by rfl) : PE X (.Call (.Name "int" p) (e :: es) [] pos) (tD X.K T (dCall opInt fs)) := rCall (pe_callTy call_int1 g m (by decide +kernel) ha (by decide) (by decide) he hpl) rule_int
theorem eListOf (l : Bool) (m : X.mg "list" = none) (g : Gl X "list") (ha : PA X (e :: es) (tA X.K T fs)) (he : starEach (e :: es) X.env = (false, eval e X.env) :: starEach es X.env := by rfl) (hpl : (backTo pos (starEach es X.env)).any (·.1) = false := by rfl) : PE X (.Call (.Name "list" p) (e :: es) [] pos) (tD X.K T (dCall (opList l) fs)) := rCall (pe_callTy call_list_of g m (by decide +kernel) ha (by decide) (by decide) he hpl) rule_list
theorem eTupOf (m : X.mg "tuple" = none) (g : Gl X "tuple") (ha : PA X (e :: es) (tA X.K T fs)) (he : starEach (e :: es) X.env = (false, eval e X.env) :: starEach es X.env := by rfl) (hpl : (backTo pos (starEach es X.env)).any (·.1) = false := by rfl) : PE X (.Call (.Name "tuple" p) (e :: es) [] pos) (tD X.K T (dCall opTuple fs)) := rCall (pe_callTy call_madeT g m (by decide +kernel) ha (by decide) (by decide) he hpl) rule_tuple
end
end
end Vw
set_option maxRecDepth 100000
set_option maxHeartbeats 4000000
namespace Vw
open PySem PySem.Spec PyProof.Rows L2
section
variable {X : Cx} {T : List Addr} {k : Nat} {a b c e o tg it : Expr} {es : List Expr} {pos p apos cpos : Pos} {fa fb fc fe fo : DE} {fs : DA} {ta tb : DT} {st : Stmt} {rest body body2 : List Stmt} {I : List Nat} {g : DG} {gs : DGs} {w : DI} {d d2 : DS}
abbrev FewB (X : Cx) (cpos : Pos) (e : Expr) (es : List Expr) : Prop := ((backTo cpos (starEach (e :: es) X.env)).all (fun x => !x.1) && (backToKw cpos (keywordEach [] X.env)).all (fun x => x.1.isSome) && decide ((e :: es).length + ([] : List Keyword).length + (if ([] : List Keyword).isEmpty then 0 else 1) < 30)) = true
theorem eAppend (ho : PE X o (tD X.K T fo)) (ha : PA X (e :: es) (tA X.K T fs)) (h1 : attributeBase o "append" X.env (eval o X.env) = eval o X.env) (h2 : FewB X cpos e es) (h3 : (apos.endLine == cpos.line) = true) (h4 : starEach (e :: es) X.env = (false, eval e X.env) :: starEach es X.env) (h5 : (backTo cpos (starEach es X.env)).any (·.1) = false) :
    PE X (.Call (.Attribute o "append" apos) (e :: es) [] cpos) (tD X.K T (dMeth "list" opAppend fo fs)) := rMeth (pe_bm PySem.F.plainAttrs_list PySem.F.slot_list_append PySem.F.type_list_append mt_append ho ha h1 h2 h3 h4 h5) rule_append
theorem eExtend (ho : PE X o (tD X.K T fo)) (ha : PA X (e :: es) (tA X.K T fs)) (h1 : attributeBase o "extend" X.env (eval o X.env) = eval o X.env) (h2 : FewB X cpos e es) (h3 : (apos.endLine == cpos.line) = true) (h4 : starEach (e :: es) X.env = (false, eval e X.env) :: starEach es X.env) (h5 : (backTo cpos (starEach es X.env)).any (·.1) = false) :
    PE X (.Call (.Attribute o "extend" apos) (e :: es) [] cpos) (tD X.K T (dMeth "list" opExtend fo fs)) := rMeth (pe_bm PySem.F.plainAttrs_list PySem.F.slot_list_extend PySem.F.type_list_extend mt_extend ho ha h1 h2 h3 h4 h5) rule_extend
theorem ePopAt (ho : PE X o (tD X.K T fo)) (ha : PA X (e :: es) (tA X.K T fs)) (h1 : attributeBase o "pop" X.env (eval o X.env) = eval o X.env) (h2 : FewB X cpos e es) (h3 : (apos.endLine == cpos.line) = true) (h4 : starEach (e :: es) X.env = (false, eval e X.env) :: starEach es X.env) (h5 : (backTo cpos (starEach es X.env)).any (·.1) = false) :
    PE X (.Call (.Attribute o "pop" apos) (e :: es) [] cpos) (tD X.K T (dMeth "list" opPopAt fo fs)) := rMeth (pe_bm PySem.F.plainAttrs_list PySem.F.slot_list_pop PySem.F.type_list_pop mt_popAt ho ha h1 h2 h3 h4 h5) rule_popAt
def dRng1 (fs : DA) : DI := fun G S => (fs G S).bind fun p => if one1 p.1 = true then dRng fs G S else none
def dRng2 (fs : DA) : DI := fun G S => (fs G S).bind fun p => if two2 p.1 = true then dRng fs G S else none
theorem iSeq (h : PE X e (tD X.K T fe)) : PI X tg e (iD X.K T (dSeqI fe)) := rSeqI h
theorem iRng1' (m : X.mg "range" = none) (g : Gl X "range") (h : PA X [a] (tA X.K T fs)) (hs : starEach [a] X.env = [(false, eval a X.env)]) : PI X tg (.Call (.Name "range" p) [a] [] pos) (iD X.K T (dRng1 fs)) := rRngA (pi_range1 g m h hs)
theorem iRng2' (m : X.mg "range" = none) (g : Gl X "range") (h : PA X [a, b] (tA X.K T fs)) (hs : starEach [a, b] X.env = [(false, eval a X.env), (false, eval b X.env)]) (hs2 : starEach [b] X.env = [(false, eval b X.env)]) : PI X tg (.Call (.Name "range" p) [a, b] [] pos) (iD X.K T (dRng2 fs)) := rRngB (pi_range2 g m h hs hs2)
theorem gName' (i : Nat) {x : Str} (hI : i ∈ I) (hN : X.N.Nodup) (hi : X.N[i]? = some x) (hx : Loc X.env.scope x) (hf : X.fn x = true ∨ X.env.scope.names.lookup x = some .local) : PG X (.Name x pos) (gD X.K T I (dgName i)) := rgName hI (pg_name hN hi hx hf)
theorem gTup' {n : Nat} {j : Nat} (hc : X.calm = true) (h : PGs X es (gsD X.K T I gs)) (hn : (assignEach es X.env).length = n) (hst : (assignEach es X.env).findIdx? (·.1) = none) : PG X (.Tuple es j pos) (gD X.K T I (dgTup n gs)) := rgTup (pg_tup hc h hn hst)
theorem gSub' (F : Fit X k) (ho : PE X o (tD X.K T fo)) (hi : PE X a (tD X.K T fa))
    (ha : ∀ v, assign (.Subscript o a pos) X.env v = (do let ov ← holding [v] (eval o X.env); let iv ← holding [v, ov] (eval a X.env); standAt pos; holding [v, ov, iv] (setItem ov iv v); release [v, ov, iv] [])) : PG X (.Subscript o a pos) (gD X.K T I (dgSub fo fa)) := rgSub (pg_sub ho hi (set_any F.u1) ha)
theorem sSet (i : Nat) {x : Str} {pos' : Pos} (hN : X.N.Nodup) (hi : X.N[i]? = some x) (hx : Loc X.env.scope x) (he : PE X e (tD X.K T fe)) (hs : swapsWith e (some (.Name x pos')) pos.line X.env = pure false) (hf : X.fn x = true ∨ X.env.scope.names.lookup x = some .local) :
    PS X (.Assign [.Name x pos'] e pos) (sD X.K T (dAsg fe (dgName i))) := rAsg (I := [i]) (psImp (ps_set hN hi hx he hs hf) fun D σ H h => tD.mono h fun v H' hv => by
  obtain ⟨Z, d, G, S, m, G', S', ok, en, r, f, q⟩ := hv
  cases f
  exact q _ H' m Ext.refl ok (en.set r) (Sl.set (List.mem_singleton.mpr rfl)))
theorem sAsg (he : PE X e (tD X.K T fe)) (hg : PG X tg (gD X.K T I g)) (hs : swapsWithSole [tg] e pos.line X.env = pure false) (hw : swappedStores [tg] e X.env = pure none) (h1 : (assignEach [tg] X.env).map (·.2) = [assign tg X.env]) : PS X (.Assign [tg] e pos) (sD X.K T (dAsg fe g)) := rAsg (ps_asg he hg hs hw h1)
theorem sPar (i j : Nat) {x y : Str} {px py pt : Pos} {kt k2 : Nat} {pt2 : Pos} (hc : X.calm = true) (hN : X.N.Nodup) (hi : X.N[i]? = some x) (hj : X.N[j]? = some y) (hij : i ≠ j)
    (hx : X.env.scope.names.lookup x = some .local) (hy : X.env.scope.names.lookup y = some .local) (ha : PA X [a, b] (tA X.K T fs))
    (hw : swappedStores [.Tuple [.Name x px, .Name y py] kt pt] (.Tuple [a, b] k2 pt2) X.env = pure (some [x, y])) (hs : swapsWithSole [.Tuple [.Name x px, .Name y py] kt pt] (.Tuple [a, b] k2 pt2) pos.line X.env = pure false) :
    PS X (.Assign [.Tuple [.Name x px, .Name y py] kt pt] (.Tuple [a, b] k2 pt2) pos) (sD X.K T (dPar i j fs)) := rPar (ps_par hc hN hi hj hij hx hy ha hw hs)
theorem sFor (hp : PassesOwn (model X.prog X.w) X.A X.env X.xe) (hc : X.calm = true) (hi : PI X tg it (iD X.K T w)) (hg : PG X tg (gD X.K T I g)) (hb : PSs X body (sD X.K T d)) (hs : ∀ x, foldedSetIterable it X.env x = pure x) : PS X (.For tg it body [] pos) (sD X.K T (dFor w g d)) := rFor (ps_for hp hc hi hg hb hs)
end
/-- a def's own context fits -/
theorem fit_cx {CX : CXT} {P : Program} {w : World} {K : PySem.W.Frag} {mg : Str → Option Value} {base : Heap} {N ps : List Str} {qual : Str} {scope : Scope} {f : Addr} {cd : Value} {A : Around} {outer : List Env} {s : Shared} {H : Hp} {E : XK} {k : Nat} (S : FnScope N ps scope) (hc : Clr A) (hr : Room k (A.deeper (envOfC qual scope s.heap.objs.size f cd))) : Fit (cxOf CX P w K mg base N qual scope f cd A outer s H E) k :=
  ⟨rfl, S.nd, hr, clr_deeper hc⟩
theorem Fit.mono {X : Cx} {j k : Nat} (F : Fit X k) (h : j ≤ k) : Fit X j := ⟨F.calm, F.nd, F.room.mono h, F.clr⟩
theorem fit_blk {X : Cx} {k : Nat} (F : Fit X k) (s : Shared) (H : Hp) (scope : Scope) (e : Env) (fp : List Addr) : Fit (X.blk s H scope e fp) k := ⟨F.calm, F.nd, F.room, F.clr⟩
theorem fit_gex {X : Cx} {A' : Around} {sb : Shared} {Hb : Hp} {Ng : List Str} {cenv : Env} {fp : List Addr} {pn : List (Addr × Obj)} {k : Nat} (nd : Ng.Nodup) (hr : Room k (A'.deeper cenv)) (hc : Clr (A'.deeper cenv)) : Fit (gexX X A' sb Hb Ng cenv fp pn) k := ⟨rfl, nd, hr, hc⟩
end Vw
set_option maxRecDepth 100000
set_option maxHeartbeats 4000000
namespace Vw
open PySem PySem.Spec PyProof.Rows L2 GenW
section
variable {P : Program} {w : World} {elt t0 i0 t1 i1 : Expr} {f0 f1 : List Expr} {sc : Scope} {pos : Pos} {env : Env}
theorem cl1 : ClW P w (.GeneratorExp elt [⟨t0, i0, f0, 0⟩] sc pos) t0 i0 f0 0 (eltSem elt env) env := ⟨fun it => rfl, fun it => rfl, ⟨_, fun it => rfl⟩, ⟨_, fun it => rfl⟩, fun it => rfl⟩
theorem cl2o : ClW P w (.GeneratorExp elt [⟨t0, i0, f0, 0⟩, ⟨t1, i1, f1, 0⟩] sc pos) t0 i0 f0 0 (clSem (.GeneratorExp elt [⟨t0, i0, f0, 0⟩, ⟨t1, i1, f1, 0⟩] sc pos) i1 0 env) env := by
  refine ⟨fun it => ?_, fun it => rfl, ⟨_, fun it => rfl⟩, ⟨_, fun it => rfl⟩, fun it => rfl⟩
  unfold compTurn clSem
  dsimp only
  simp only [bind_assoc, pure_bind]
  rfl
theorem cl2i : ClW P w (.GeneratorExp elt [⟨t0, i0, f0, 0⟩, ⟨t1, i1, f1, 0⟩] sc pos) t1 i1 f1 1 (eltSem elt env) env := ⟨fun it => rfl, fun it => rfl, ⟨_, fun it => rfl⟩, ⟨_, fun it => rfl⟩, fun it => rfl⟩
theorem in2 (it : Value) : (Code.compStart (.GeneratorExp elt [⟨t0, i0, f0, 0⟩, ⟨t1, i1, f1, 0⟩] sc pos) 1 it .none env).weight = 0 ∧ (Code.compStart (.GeneratorExp elt [⟨t0, i0, f0, 0⟩, ⟨t1, i1, f1, 0⟩] sc pos) 1 it .none env).cUnits = 0 ∧ (Code.compLoop (.GeneratorExp elt [⟨t0, i0, f0, 0⟩, ⟨t1, i1, f1, 0⟩] sc pos) 1 it .none env).weight = 0 ∧ (Code.compLoop (.GeneratorExp elt [⟨t0, i0, f0, 0⟩, ⟨t1, i1, f1, 0⟩] sc pos) 1 it .none env).cUnits = 0 := ⟨rfl, rfl, rfl, rfl⟩
end
def blkC (N : List Str) (sc scope : Scope) (own : List (Str × Nat)) : Bool :=
  decide (scope.kind = .function) && scope.names.all (fun y => decide (scope.names.lookup y.1 = some y.2)) && own.all (fun p => decide (N[p.2]? = some p.1)) && scope.names.all (fun y => !decide (y.2 = .free) || (decide (sc.names.lookup y.1 = some .cell) || decide (sc.names.lookup y.1 = some .free)))
    && scope.names.all (fun y => !(decide (y.2 = .local) || decide (y.2 = .cell)) || ((own.map (·.1)).contains y.1 || !N.contains y.1))
theorem blk_by {N : List Str} {sc scope : Scope} {own : List (Str × Nat)} (h : blkC N sc scope own = true) : BlkOk N sc scope own := by
  unfold blkC at h
  simp only [Bool.and_eq_true, decide_eq_true_eq, List.all_eq_true, Bool.or_eq_true, Bool.not_eq_true', decide_eq_false_iff_not, List.contains_iff_mem] at h
  obtain ⟨⟨⟨⟨h1, h2⟩, h3⟩, h4⟩, h5⟩ := h
  refine ⟨h1, h2, h3, fun y hy e => ?_, fun y hy e => ?_⟩
  · rcases h4 y hy with z | z
    · exact absurd e z
    · exact z
  · rcases h5 y hy with z | z | z
    · exact absurd e (by simpa using z)
    · exact .inl z
    · refine .inr fun q => ?_
      have : N.contains y.1 = true := List.contains_iff_mem.mpr q
      rw [this] at z; cases z
def genC (N : List Str) (psc scope : Scope) (Ng : List Str) (js : List (Option Nat)) : Bool :=
  decide (scope.kind = .function) && !scope.isCoroutine && scope.names.all (fun y => !decide (y.2 = .cell)) && decide (scope.names.lookup (".0" : Str) = some NameKind.local) && scope.names.all (fun y => decide (scope.names.lookup y.1 = some y.2))
    && scope.names.all (fun y => !decide (y.2 = .free) || (decide (psc.names.lookup y.1 = some .cell) || decide (psc.names.lookup y.1 = some .free)))
    && (List.range js.length).all (fun i => match js[i]? with | some (some j) => (match Ng[i]? with | some y => decide (N[j]? = some y) && decide (scope.names.lookup y = some .free) | none => false) | _ => true) && decide (js.length = Ng.length)
theorem gen_by {N : List Str} {psc scope : Scope} {Ng : List Str} {js : List (Option Nat)} (h : genC N psc scope Ng js = true) : GenSc N psc scope Ng js := by
  unfold genC at h
  simp only [Bool.and_eq_true, decide_eq_true_eq, List.all_eq_true, Bool.or_eq_true, Bool.not_eq_true', decide_eq_false_iff_not] at h
  obtain ⟨⟨⟨⟨⟨⟨⟨h1, h2⟩, h3⟩, h4⟩, h5⟩, h6⟩, h7⟩, h8⟩ := h
  refine ⟨h1, h2, h3, h4, h5, fun y hy e => ?_, fun i j e => ?_, h8⟩
  · rcases h6 y hy with z | z
    · exact absurd e z
    · exact z
  · have hi : i < js.length := (List.getElem?_eq_some_iff.mp e).1
    have q := h7 i (List.mem_range.mpr hi)
    rw [e] at q
    cases ey : Ng[i]? with
    | none => rw [ey] at q; cases q
    | some y =>
      rw [ey] at q
      simp only [Bool.and_eq_true, decide_eq_true_eq] at q
      exact ⟨y, rfl, q.1, q.2⟩
structure Cal (P : Program) (w : World) (K : PySem.W.Frag) (mg : Str → Option Value) (base : Heap) (T : List Addr) (k : Nat) (x : Str) (st : Stmt) (ps : List Str) (fn : DF) : Prop where
  ex : ∃ (f : Addr) (fd : FuncData), FnG P w K mg base (L2.CX P w) k f fd ps (spD K T ps.length fn) ∧ mg x = some (.ref f) ∧ Fun K x x st f fd ∧ Binds K fd ps []
section
variable {X : Cx} {T : List Addr} {k j : Nat} {x : Str} {st : Stmt} {ps ks : List Str} {fn : DF} {p pos : Pos} {e : Expr} {es : List Expr} {kws : List Keyword} {fa fk : DA} {np n nk : Nat} {ix : List Nat}
theorem eCal (C : Cal X.prog X.w X.K X.mg X.base T k x st ps fn) (F : Fit X j) (hk : k ≤ j) (hg : Gl X x) (ha : PA X (e :: es) (tA X.K T fa)) (hdb : (x == ("__debug__" : Str)) = false := by decide)
    (he : starEach (e :: es) X.env = (false, eval e X.env) :: starEach es X.env := by rfl) (hpl : (backTo pos (starEach es X.env)).any (·.1) = false := by rfl) (hn : ps.length = n := by rfl) : PE X (.Call (.Name x p) (e :: es) [] pos) (tD X.K T (dCallF n fa fn)) := by
  subst hn
  obtain ⟨f, fd, F1, F2, F3, F4⟩ := C.ex
  exact rCallF F1 (F.room.mono hk) F.clr hg F2 F3.kp rfl F4 ha hdb he hpl
end
theorem cal_of {P : Program} {w : World} {K : PySem.W.Frag} {mg : Str → Option Value} {base : Heap} {T : List Addr} {k : Nat} {x : Str} {st : Stmt} {f : Addr} {fd : FuncData} {N ps : List Str} {b : DS} (F : Fun K x x st f fd) (hm : mg x = some (.ref f)) (S : FnScope N ps (defScope st)) (hb : Binds K fd ps [])
    (body : ∀ (cdv : Value) (A : Around) (outer : List Env) (s : Shared) (H : Hp) (E : XK), fd.code = cdv → Clr A → Room k (A.deeper (envOfC x (defScope st) s.heap.objs.size f cdv)) → PSs (cxOf (L2.CX P w) P w K mg base N x (defScope st) f cdv A outer s H E) (defBody st) (sD K T b)) :
    Cal P w K mg base T (k + 1) x st ps (dDef N.length b) := ⟨f, fd, fnG_D F S body, hm, F, hb⟩
end Vw
set_option maxRecDepth 100000
set_option maxHeartbeats 4000000
namespace Vw
open PySem PySem.Spec L2
def d_lawbag : DS :=
    (dSeq (dPar 1 2 (dCons (dLc false [3] (dSeqI (dSlL false (dVar 0) doNone (doSome (dCon (.int 63))))) (dgName 3) dYes (dBin (opAdd false) (dBin (opMul false) (dCon (.int 2)) (dCall opAbs (dCons (dVar 3) dNil))) (dCall opInt (dCons (dBin (opCmp fun i j => decide (i < j)) (dVar 3) (dCon (.int 0))) dNil)))) (dCons (dBin (opAdd false) (dCon (.int 15803)) (dCall opLen (dCons (dVar 0) dNil))) dNil)))
    (dSeq (dFor (dSeqI (dVar 1)) (dgName 3)
    (dSeq (dAsg (dBin opMod (dCall opInt (dCons (dBin (opAdd false) (dBin (opAdd false) (dBin (opMul false) (dVar 2) (dCon (.int 48271))) (dVar 3)) (dCon (.int 11))) dNil)) (dCon (.int 4294967291))) (dgName 2))
    dSkip))
    (dSeq (dRet (dDisp true [.inr ("far" : Str), .inr ("stirred" : Str), .inr ("turn" : Str)] (dCons (dLc true [3] (dSeqI (dVar 1)) (dgName 3) (dCmpT (opCmp fun i j => decide (j ≤ i)) (dVar 3) (dBin opPow (dCon (.int 10)) (dCon (.int 15)))) (dVar 3)) (dCons (dVar 2) (dCons (dCon (.int 0)) dNil)))))
    dSkip)))
def fn_lawbag : DF := dDef 4 d_lawbag
def d_lawdraw : DS :=
    (dSeq (dAsg (dBin opIx (dVar 0) (dCon (.str ("far" : Str)))) (dgName 2))
    (dSeq (dIte (dCmpT (opEq true) (dVar 2) (dLst false dNil))
    (dSeq (dAsg (dMeth "list" opPopAt (dVar 2) (dCons (dCon (.int 0)) dNil)) (dgName 3))
    (dSeq (dIte (dCmpT (opCmp fun i j => decide (j ≤ i)) (dVar 3) (dVar 1))
    (dSeq (dExpr (dMeth "list" opInsert (dVar 2) (dCons (dCon (.int 0)) (dCons (dBin opDiv (dVar 3) (dVar 1)) dNil))))
    dSkip) dSkip)
    (dSeq (dRet (dBin opMod (dCall opInt (dCons (dVar 3) dNil)) (dVar 1)))
    dSkip))) dSkip)
    (dSeq (dAsg (dBin (opAdd false) (dBin opIx (dVar 0) (dCon (.str ("turn" : Str)))) (dCon (.int 1))) (dgSub (dVar 0) (dCon (.str ("turn" : Str)))))
    (dSeq (dAsg (dBin opIx (dVar 0) (dCon (.str ("turn" : Str)))) (dgName 4))
    (dSeq (dAsg (dBin opMod (dCall opInt (dCons (dBin (opAdd false) (dBin (opAdd false) (dBin (opMul false) (dBin opIx (dVar 0) (dCon (.str ("stirred" : Str)))) (dCon (.int 69621))) (dBin (opMul false) (dBin (opMul false) (dVar 4) (dVar 4)) (dCon (.int 7)))) (dBin (opMul false) (dCon (.int 104729)) (dVar 4))) dNil)) (dCon (.int 4294967279))) (dgName 5))
    (dSeq (dAsg (dBin opMod (dCall opInt (dCons (dBin (opAdd false) (dBin (opMul false) (dVar 5) (dCon (.int 48271))) (dBin opDiv (dVar 5) (dCon (.int 65536)))) dNil)) (dCon (.int 4294967291))) (dgName 5))
    (dSeq (dAsg (dVar 5) (dgSub (dVar 0) (dCon (.str ("stirred" : Str)))))
    (dSeq (dRet (dBin opMod (dCall opInt (dCons (dBin opDiv (dVar 5) (dCon (.int 1024))) dNil)) (dVar 1)))
    dSkip))))))))
def fn_lawdraw : DF := dDef 6 d_lawdraw
def d_lawpick : DS :=
    (dSeq (dRet (dBin opIx (dVar 1) (dCallF 2 (dCons (dVar 0) (dCons (dCall opLen (dCons (dVar 1) dNil)) dNil)) fn_lawdraw)))
    dSkip)
def fn_lawpick : DF := dDef 2 d_lawpick
def d_lawmixed : DS :=
    (dSeq (dPar 2 3 (dCons (dCall (opList true) (dCons (dVar 1) dNil)) (dCons (dLst true dNil) dNil)))
    (dSeq (dWhile (dCmpT (opEq true) (dVar 2) (dLst false dNil))
    (dSeq (dExpr (dMeth "list" opAppend (dVar 3) (dCons (dMeth "list" opPopAt (dVar 2) (dCons (dCallF 2 (dCons (dVar 0) (dCons (dCall opLen (dCons (dVar 2) dNil)) dNil)) fn_lawdraw) dNil)) dNil)))
    dSkip) 1000)
    (dSeq (dRet (dVar 3))
    dSkip)))
def fn_lawmixed : DF := dDef 4 d_lawmixed
theorem pys_ints (fl : Nat → Option PyData) : ∀ xs : List Int, toPs fl (xs.map D.int) = some (xs.map PyData.int)
  | [] => rfl
  | x :: xs => by
    show (toP fl (.int x)).bind _ = _
    rw [show toP fl (.int x) = some (.int x) from rfl]
    show (toPs fl (xs.map D.int)).map _ = _
    rw [pys_ints fl xs]; rfl
theorem lay_ints : ∀ xs : List Int, PyData.canLayAll0 (xs.map PyData.int) = true
  | [] => rfl
  | x :: xs => by
    show (PyData.canLay0 (.int x) && PyData.canLayAll0 (xs.map PyData.int)) = true
    rw [lay_ints xs]; rfl
theorem dep_ints : ∀ xs : List Int, PyData.depthAll (xs.map PyData.int) = 0
  | [] => rfl
  | x :: xs => by
    show max (PyData.depth (.int x)) (PyData.depthAll (xs.map PyData.int)) = 0
    rw [dep_ints xs]; rfl
theorem shaped_ints (xs : List Int) : SeqAt.shaped (.list (xs.map PyData.int)) = true := by
  unfold SeqAt.shaped
  have h1 : PyData.canLay0 (.list (xs.map PyData.int)) = true := lay_ints xs
  have h2 : PyData.depth (.list (xs.map PyData.int)) = 1 := by
    show PyData.depthAll (xs.map PyData.int) + 1 = 1
    rw [dep_ints xs]
  rw [h1, h2]; rfl
theorem ne_nil_ints {S : Sto} {n : Nat} {xs : List Int} (h : S[n]? = some (Cell.lst (xs.map D.int))) : opEq true (.loc n) (.lst []) S = some (.bl (!xs.isEmpty), S) := by
  unfold opEq eqD
  rw [show eqS (.loc n) (.lst []) = none from rfl]
  show (eqP S (.loc n) (.lst [])).map _ = _
  unfold eqP
  have e1 : pyOf S (.loc n) = some (.list (xs.map PyData.int)) := by
    show cell1 (cell1 noCell S) S n = _
    unfold cell1
    rw [h]
    show (toPs _ (xs.map D.int)).map _ = _
    rw [pys_ints]; rfl
  have e2 : pyOf S (.lst []) = some (.list []) := rfl
  rw [e1, e2]
  simp only [Option.bind_some]
  rw [shaped_ints, show SeqAt.shaped (.list []) = true from shaped_ints []]
  cases xs with
  | nil => rfl
  | cons x xs => rfl
def KB : List Key := [.inr ("far" : Str), .inr ("stirred" : Str), .inr ("turn" : Str)]
structure Bag (n : Nat) (S : Sto) : Prop where
  ex : ∃ (far : List Int) (st tu : Int) (rest : Sto), S = Cell.lst (far.map D.int) :: Cell.dic KB [.loc 0, .int st, .int tu] :: rest ∧ (∀ x ∈ far, 0 ≤ x) ∧ far.length ≤ 1000 ∧ 0 ≤ st ∧ st < 2 ^ 33 ∧ 0 ≤ tu ∧ tu ≤ n
theorem Bag.mono {n n' : Nat} {S : Sto} (b : Bag n S) (h : n ≤ n') : Bag n' S := by
  obtain ⟨far, st, tu, rest, h1, h2, h3, h4, h5, h6, h7⟩ := b
  exact ⟨far, st, tu, rest, h1, h2, h3, h4, h5, h6, by omega⟩
end Vw
set_option maxRecDepth 100000
set_option maxHeartbeats 4000000
namespace Vw
open PySem PySem.Spec L2
theorem small_of {i : Int} (h : -(2 ^ 64) < i ∧ i < 2 ^ 64) : small i = true := by
  unfold small; simp only [Bool.and_eq_true, decide_eq_true_eq]; exact h
theorem add_int {c : Bool} {i j : Int} {S : Sto} : opAdd c (.int i) (.int j) S = some (.int (i + j), S) := rfl
theorem mod_int {i j : Int} {S : Sto} (h : 0 < j) : opMod (.int i) (.int j) S = some (.int (i % j), S) := if_pos h
theorem div_int {i j : Int} {S : Sto} (h : 0 < j) (h2 : j < 1073741824) : opDiv (.int i) (.int j) S = some (.int (i / j), S) := if_pos ⟨h, h2⟩
theorem int_int {i : Int} {S : Sto} : opInt [.int i] S = some (.int i, S) := rfl
end Vw
set_option maxRecDepth 100000
set_option maxHeartbeats 4000000
namespace Vw
open PySem PySem.Spec L2
theorem for_inv {src : Src} {g : DG} {b : DS} {ds : List D} (I : Nat → Gam → Sto → Prop) (hsrc : ∀ i G S, I i G S → src i S = some ds[i]?)
    (step : ∀ i G S d, ds[i]? = some d → I i G S → ∃ G1 S1 G2 S2, g d G S = some (G1, S1) ∧ b G1 S1 = some (.nx, G2, S2) ∧ I (i + 1) G2 S2) :
    ∀ (k i : Nat) (G : Gam) (S : Sto), i + k = ds.length → I i G S → ∃ G' S', dLoop src g b (k + 1) i G S = some (.nx, G', S') ∧ I ds.length G' S' := by
  intro k
  induction k with
  | zero =>
    intro i G S hi h
    have e : ds[i]? = none := List.getElem?_eq_none (by omega)
    refine ⟨G, S, ?_, by have : i = ds.length := by omega
                         rw [← this]; exact h⟩
    unfold dLoop
    rw [hsrc i G S h, e]; rfl
  | succ k ih =>
    intro i G S hi h
    obtain ⟨d, e⟩ : ∃ d, ds[i]? = some d := ⟨ds[i]'(by omega), List.getElem?_eq_getElem _⟩
    obtain ⟨G1, S1, G2, S2, h1, h2, h3⟩ := step i G S d e h
    obtain ⟨G', S', h4, h5⟩ := ih (i + 1) G2 S2 (by omega) h3
    refine ⟨G', S', ?_, h5⟩
    unfold dLoop
    rw [hsrc i G S h, e]
    simp only [Option.bind_some, h1, h2, h4]
theorem lc_inv {src : Src} {g : DG} {t : DT} {f : DE} {G : Gam} {ds : List D} (I : Nat → Sto → List D → Prop) (hsrc : ∀ i S acc, I i S acc → src i S = some ds[i]?)
    (step : ∀ i S acc d, ds[i]? = some d → I i S acc → ∃ G1 S1 b S2, g d G S = some (G1, S1) ∧ t G1 S1 = some (b, S2) ∧ (b = true → ∃ v S3, f G1 S2 = some (v, S3) ∧ I (i + 1) S3 (acc ++ [v])) ∧ (b = false → I (i + 1) S2 acc)) :
    ∀ (k i : Nat) (S : Sto) (acc : List D), i + k = ds.length → I i S acc → ∃ out S', dLcLoop src g t f G (k + 1) i S acc = some (out, S') ∧ I ds.length S' out := by
  intro k
  induction k with
  | zero =>
    intro i S acc hi h
    have e : ds[i]? = none := List.getElem?_eq_none (by omega)
    refine ⟨acc, S, ?_, by have : i = ds.length := by omega
                           rw [← this]; exact h⟩
    unfold dLcLoop
    rw [hsrc i S acc h, e]; rfl
  | succ k ih =>
    intro i S acc hi h
    obtain ⟨d, e⟩ : ∃ d, ds[i]? = some d := ⟨ds[i]'(by omega), List.getElem?_eq_getElem _⟩
    obtain ⟨G1, S1, b, S2, h1, h2, h3, h4⟩ := step i S acc d e h
    cases b with
    | true =>
      obtain ⟨v, S3, h5, h6⟩ := h3 rfl
      obtain ⟨out, S', h7, h8⟩ := ih (i + 1) S3 (acc ++ [v]) (by omega) h6
      refine ⟨out, S', ?_, h8⟩
      unfold dLcLoop
      rw [hsrc i S acc h, e]
      simp only [Option.bind_some, h1, h2, if_true, h5, h7]
    | false =>
      obtain ⟨out, S', h7, h8⟩ := ih (i + 1) S2 acc (by omega) (h4 rfl)
      refine ⟨out, S', ?_, h8⟩
      unfold dLcLoop
      rw [hsrc i S acc h, e]
      simp only [Option.bind_some, h1, h2, Bool.false_eq_true, if_false, h7]
theorem g_inv {src : Src} {g : DG} {t : DT} {em : DEm} {ds : List D} (I : Nat → Gam → Sto → List D → Prop) (hsrc : ∀ i G S acc, I i G S acc → src i S = some ds[i]?)
    (step : ∀ i G S acc d, ds[i]? = some d → I i G S acc → ∃ G1 S1 b S2, g d G S = some (G1, S1) ∧ t G1 S1 = some (b, S2) ∧ (b = true → ∃ G3 S3 acc3, em G1 S2 acc = some (G3, S3, acc3) ∧ I (i + 1) G3 S3 acc3) ∧ (b = false → I (i + 1) G1 S2 acc)) :
    ∀ (k i : Nat) (G : Gam) (S : Sto) (acc : List D), i + k = ds.length → I i G S acc → ∃ G' S' out, dGLoop src g t em (k + 1) i G S acc = some (G', S', out) ∧ I ds.length G' S' out := by
  intro k
  induction k with
  | zero =>
    intro i G S acc hi h
    have e : ds[i]? = none := List.getElem?_eq_none (by omega)
    refine ⟨G, S, acc, ?_, by have : i = ds.length := by omega
                              rw [← this]; exact h⟩
    unfold dGLoop
    rw [hsrc i G S acc h, e]; rfl
  | succ k ih =>
    intro i G S acc hi h
    obtain ⟨d, e⟩ : ∃ d, ds[i]? = some d := ⟨ds[i]'(by omega), List.getElem?_eq_getElem _⟩
    obtain ⟨G1, S1, b, S2, h1, h2, h3, h4⟩ := step i G S acc d e h
    cases b with
    | true =>
      obtain ⟨G3, S3, acc3, h5, h6⟩ := h3 rfl
      obtain ⟨G', S', out, h7, h8⟩ := ih (i + 1) G3 S3 acc3 (by omega) h6
      refine ⟨G', S', out, ?_, h8⟩
      unfold dGLoop
      rw [hsrc i G S acc h, e]
      simp only [Option.bind_some, h1, h2, if_true, h5, h7]
    | false =>
      obtain ⟨G', S', out, h7, h8⟩ := ih (i + 1) G1 S2 acc (by omega) (h4 rfl)
      refine ⟨G', S', out, ?_, h8⟩
      unfold dGLoop
      rw [hsrc i G S acc h, e]
      simp only [Option.bind_some, h1, h2, Bool.false_eq_true, if_false, h7]
structure Keep (S S' : Sto) : Prop where
  len : S.length ≤ S'.length
  at_ : ∀ i, 2 ≤ i → i < S.length → S'[i]? = S[i]?
theorem Keep.refl {S : Sto} : Keep S S := ⟨Nat.le_refl _, fun _ _ _ => rfl⟩
theorem Keep.trans {S S' S'' : Sto} (a : Keep S S') (b : Keep S' S'') : Keep S S'' := ⟨Nat.le_trans a.len b.len, fun i h1 h2 => (b.at_ i h1 (Nat.lt_of_lt_of_le h2 a.len)).trans (a.at_ i h1 h2)⟩
theorem Keep.push {S : Sto} {c : Cell} : Keep S (S ++ [c]) := ⟨by simp, fun i _ h2 => List.getElem?_append_left h2⟩
theorem Keep.put {S0 S : Sto} {a : Nat} {c : Cell} (k : Keep S0 S) (h : S0.length ≤ a) : Keep S0 (S.set a c) := ⟨by simp [k.len], fun i h1 h2 => by rw [List.getElem?_set_ne (by omega)]; exact k.at_ i h1 h2⟩
theorem Bag.push {n : Nat} {S : Sto} (b : Bag n S) {c : Cell} : Bag n (S ++ [c]) := by
  obtain ⟨far, st, tu, rest, rfl, h⟩ := b
  exact ⟨far, st, tu, rest ++ [c], rfl, h⟩
theorem Bag.put {n a : Nat} {S : Sto} (b : Bag n S) {c : Cell} (h : 2 ≤ a) : Bag n (S.set a c) := by
  obtain ⟨far, st, tu, rest, rfl, h'⟩ := b
  obtain ⟨a, rfl⟩ : ∃ j, a = j + 2 := ⟨a - 2, by omega⟩
  exact ⟨far, st, tu, rest.set a c, rfl, h'⟩
theorem Bag.two {n : Nat} {S : Sto} (b : Bag n S) : 2 ≤ S.length := by
  obtain ⟨far, st, tu, rest, rfl, h'⟩ := b
  simp
theorem atI_nn {α : Type} {xs : List α} {r : Nat} (h : r < xs.length) : atI xs (r : Int) = some xs[r] := by
  unfold atI ixN
  rw [if_pos (by omega), if_pos (by omega)]
  simp
end Vw
set_option maxRecDepth 100000
set_option maxHeartbeats 4000000
namespace Vw
open PySem PySem.Spec L2
abbrev intL (xs : List Int) : List D := xs.map D.int
theorem intL_get {xs : List Int} {i : Nat} (h : i < xs.length) : (intL xs)[i]? = some (.int xs[i]) := by
  show (xs.map D.int)[i]? = _
  rw [List.getElem?_map, List.getElem?_eq_getElem h]; rfl
theorem intL_erase (xs : List Int) (i : Nat) : (intL xs).eraseIdx i = intL (xs.eraseIdx i) := by
  show (xs.map D.int).eraseIdx i = (xs.eraseIdx i).map D.int
  induction xs generalizing i with
  | nil => simp
  | cons x xs ih => cases i with
    | zero => rfl
    | succ i => simp only [List.map_cons, List.eraseIdx_cons_succ, ih]
theorem perm_erase {xs : List Int} {i : Nat} (h : i < xs.length) : (xs[i] :: xs.eraseIdx i).Perm xs := by
  induction xs generalizing i with
  | nil => cases h
  | cons x xs ih => cases i with
    | zero => exact .refl _
    | succ i =>
      have h' : i < xs.length := by simpa using h
      simp only [List.getElem_cons_succ, List.eraseIdx_cons_succ]
      exact (List.Perm.swap _ _ _).trans ((ih h').cons x)
theorem seqD_loc {S : Sto} {n : Nat} {ds : List D} (h : S[n]? = some (Cell.lst ds)) : seqD S (.loc n) = some ds := by
  show (match S[n]? with | some (.lst xs) => some xs | _ => none) = _
  rw [h]
theorem tyD_loc {S : Sto} {n : Nat} {ds : List D} (h : S[n]? = some (Cell.lst ds)) : tyD "list" S (.loc n) = true := by
  show ("list" == "list" && (match S[n]? with | some (.lst xs) => some xs | _ => none).isSome) = true
  rw [h]; rfl
theorem len_seq {S : Sto} {x : D} {ds : List D} (h : seqD S x = some ds) : opLen [x] S = some (.int ds.length, S) := by
  show (match seqD S x with | some xs => _ | none => _) = _
  rw [h]
theorem pop_loc {S : Sto} {n i : Nat} {xs : List Int} (h : S[n]? = some (Cell.lst (intL xs))) (hi : i < xs.length) (hb : i < 1000000000) : opPopAt (.loc n) [.int i] S = some (.int xs[i], S.set n (Cell.lst (intL (xs.eraseIdx i)))) := by
  show (match S[n]? with | some (Cell.lst ds) => (if (0 : Int) ≤ (i : Int) ∧ (i : Int) < 1000000000 then (match ds[(i : Int).toNat]? with | some d => some (d, S.set n (Cell.lst (ds.eraseIdx (i : Int).toNat))) | none => none) else none) | _ => none) = _
  rw [h]
  simp only
  rw [if_pos ⟨by omega, by omega⟩, Int.toNat_natCast, intL_get hi]
  simp only [intL_erase]
theorem app_loc {S : Sto} {n : Nat} {ds : List D} {d : D} (h : S[n]? = some (Cell.lst ds)) (hb : ds.length < 1000000) : opAppend (.loc n) [d] S = some (.non, S.set n (Cell.lst (ds ++ [d]))) := by
  show (match S[n]? with | some (Cell.lst ds) => (if ds.length < lim then some (D.non, S.set n (Cell.lst (ds ++ [d]))) else none) | _ => none) = _
  rw [h]
  exact if_pos hb
theorem okc {xs : List D} {S : Sto} (h : xs.length ≤ 1000000) : okLst true xs S = some (.loc S.length, S ++ [Cell.lst xs]) := by
  unfold okLst; rw [if_pos (show xs.length ≤ lim from h), if_pos rfl]
theorem okv {xs : List D} {S : Sto} (h : xs.length ≤ 1000000) : okLst false xs S = some (.lst xs, S) := by
  unfold okLst; rw [if_pos (show xs.length ≤ lim from h), if_neg Bool.false_ne_true]
theorem okt {xs : List D} {S : Sto} (h : xs.length ≤ 1000000) : okTup xs S = some (.tup xs, S) := by
  unfold okTup; rw [if_pos (show xs.length ≤ lim from h)]
theorem list_c {S : Sto} {x : D} {ds : List D} (h : seqD S x = some ds) (hb : ds.length ≤ 1000000) : opList true [x] S = some (.loc S.length, S ++ [Cell.lst ds]) := by
  show (seqD S x).bind _ = _
  rw [h]; exact okc hb
theorem tuple_of {S : Sto} {x : D} {ds : List D} (h : seqD S x = some ds) (hb : ds.length ≤ 1000000) : opTuple [x] S = some (.tup ds, S) := by
  show (seqD S x).bind _ = _
  rw [h]; exact okt hb
end Vw
set_option maxRecDepth 100000
set_option maxHeartbeats 4000000
namespace Vw
open PySem PySem.Spec L2
theorem rngD_len (k : Nat) : (rngD 0 (k : Int)).length = k := by
  unfold rngD; simp
theorem rngD_get {k i : Nat} (h : i < k) : (rngD 0 (k : Int))[i]? = some (.int i) := by
  unfold rngD
  rw [List.getElem?_map, List.getElem?_range (by omega)]
  simp
theorem rng1_ok {fs : DA} {k : Nat} {G : Gam} {S : Sto} (h : fs G S = some ([.int k], S)) (hk : k ≤ 1000000) : dRng1 fs G S = some (fixS (rngD 0 (k : Int)), k + 1, S) := by
  unfold dRng1 dRng
  rw [h]
  simp only [Option.bind_some, one1, if_true]
  rw [if_pos (by omega), rngD_len]
theorem rng2_ok {fs : DA} {a k : Nat} {G : Gam} {S : Sto} (h : fs G S = some ([.int a, .int k], S)) (ha : a ≤ 1000000) (hk : k ≤ 1000000) : dRng2 fs G S = some (fixS (rngD (a : Int) (k : Int)), (rngD (a : Int) (k : Int)).length + 1, S) := by
  unfold dRng2 dRng
  rw [h]
  simp only [Option.bind_some, two2, if_true]
  rw [if_pos (by omega)]
/-- all but i -/
def others (k i : Nat) : List Int := ((List.range k).filter fun j => decide (j ≠ i)).map fun (j : Nat) => (j : Int)
theorem others_succ (k i : Nat) : others (k + 1) i = others k i ++ (if k = i then [] else [(k : Int)]) := by
  unfold others
  rw [List.range_succ, List.filter_append, List.map_append]
  by_cases h : k = i <;> simp [h]
theorem others_len (k i : Nat) : (others k i).length ≤ k := by
  unfold others
  rw [List.length_map]
  exact Nat.le_trans (List.length_filter_le _ _) (by simp)
theorem ne_int {i j : Int} {S : Sto} : opEq true (.int i) (.int j) S = some (.bl (!decide (i = j)), S) := rfl
theorem eq_int {i j : Int} {S : Sto} : opEq false (.int i) (.int j) S = some (.bl (decide (i = j)), S) := rfl
theorem dLc_of {c : Bool} {own : List Nat} {w : DI} {g : DG} {t : DT} {f : DE} {G : Gam} {S S1 S2 : Sto} {src : Src} {k : Nat} {out : List D} (h1 : w G S = some (src, k, S1)) (h2 : dLcLoop src g t f (wipeG G own) k 0 S1 [] = some (out, S2)) : dLc c own w g t f G S = okLst c out S2 := by
  unfold dLc dComp
  rw [h1]
  show ((dLcLoop src g t f (wipeG G own) k 0 S1 []).bind _) = _
  rw [h2]; rfl
end Vw
set_option maxRecDepth 100000
set_option maxHeartbeats 4000000
namespace Vw
open PySem PySem.Spec L2
abbrev wDash : Str := "-"
abbrev wEven : Str := "even"
def rowD (k : Nat) (f : Nat → Str) : List D := (List.range k).map fun c => D.str (f c)
def upd1 (f : Nat → Str) (j : Nat) (w : Str) : Nat → Str := fun c => if c = j then w else f c
theorem rowD_len {k : Nat} {f : Nat → Str} : (rowD k f).length = k := by unfold rowD; simp
theorem rowD_get {k c : Nat} {f : Nat → Str} (h : c < k) : (rowD k f)[c]? = some (.str (f c)) := by
  unfold rowD
  rw [List.getElem?_map, List.getElem?_range h]; rfl
theorem rowD_set {k j : Nat} {f : Nat → Str} {w : Str} : (rowD k f).set j (.str w) = rowD k (upd1 f j w) := by
  apply List.ext_getElem?
  intro c
  by_cases hc : c < k
  · by_cases hj : j = c
    · subst hj
      rw [List.getElem?_set_self (by rw [rowD_len]; exact hc), rowD_get hc]
      simp [upd1]
    · rw [List.getElem?_set_ne hj, rowD_get hc, rowD_get hc]
      simp [upd1, Ne.symm hj]
  · rw [List.getElem?_eq_none (by rw [List.length_set, rowD_len]; omega), List.getElem?_eq_none (by rw [rowD_len]; omega)]
/-- the rows lie as cells from L on, the row of the rows behind them -/
structure GridC (L k : Nat) (M : Nat → Nat → Str) (S : Sto) : Prop where
  row : ∀ r, r < k → S[L + r]? = some (Cell.lst (rowD k (M r)))
  top : S[L + k]? = some (Cell.lst ((List.range k).map fun r => D.loc (L + r)))
  len : S.length = L + k + 1
def upd2 (M : Nat → Nat → Str) (i j : Nat) (w : Str) : Nat → Nat → Str := fun r => if r = i then upd1 (M i) j w else M r
theorem GridC.put {L k i j : Nat} {M : Nat → Nat → Str} {S : Sto} {w : Str} (g : GridC L k M S) (hi : i < k) (hj : j < k) : opPut (.loc (L + i)) (.int j) (.str w) S = some (S.set (L + i) (Cell.lst (rowD k (upd1 (M i) j w)))) ∧ GridC L k (upd2 M i j w) (S.set (L + i) (Cell.lst (rowD k (upd1 (M i) j w)))) := by
  refine ⟨?_, fun r hr => ?_, ?_, by rw [List.length_set]; exact g.len⟩
  · show (match S[L + i]? with | some (Cell.lst ds) => (match ixN ds.length (j : Int) with | some j => some (S.set (L + i) (Cell.lst (ds.set j (.str w)))) | none => none) | some (Cell.dic ks ds) => _ | none => none) = _
    rw [g.row i hi]
    simp only
    rw [rowD_len, show ixN k (j : Int) = some j by unfold ixN; rw [if_pos (by omega), if_pos (by omega)]; simp]
    simp only [rowD_set]
  · by_cases h : r = i
    · subst h
      rw [List.getElem?_set_self (by rw [g.len]; omega)]
      simp [upd2]
    · rw [List.getElem?_set_ne (by omega), g.row r hr]
      simp [upd2, h]
  · rw [List.getElem?_set_ne (by omega)]
    exact g.top
theorem GridC.ix {L k i : Nat} {M : Nat → Nat → Str} {S : Sto} (g : GridC L k M S) (hi : i < k) (hk : k ≤ 1000) : opIx (.loc (L + k)) (.int i) S = some (.loc (L + i), S) := by
  unfold opIx
  rw [seqD_loc g.top]
  show (atI _ (i : Int)).map _ = _
  rw [atI_nn (by simpa using hi)]
  simp
def PairOk (ss : List Str) (x y : Str) : Prop := (x = wEven ∧ y = wEven) ∨ (x ∈ ss ∧ y ∈ ss)
structure Done (ss : List Str) (k i j : Nat) (M : Nat → Nat → Str) : Prop where
  dia : ∀ a, a < k → M a a = wDash
  pair : ∀ a b, a < b → b < k → (a < i ∨ (a = i ∧ b < j)) → PairOk ss (M a b) (M b a)
theorem Done.step {ss : List Str} {k i j : Nat} {M : Nat → Nat → Str} {x y : Str} (d : Done ss k i j M) (hij : i < j) (hj : j < k) (p : PairOk ss x y) : Done ss k i (j + 1) (upd2 (upd2 M i j x) j i y) := by
  have e : ∀ a b, upd2 (upd2 M i j x) j i y a b = if a = j ∧ b = i then y else if a = i ∧ b = j then x else M a b := fun a b => by
    unfold upd2 upd1
    by_cases h1 : a = j
    · subst h1
      by_cases h2 : b = i
      · subst h2; simp
      · have : ¬ a = i := by omega
        simp [h2, this]
    · by_cases h2 : a = i
      · subst h2
        by_cases h3 : b = j <;> simp [h1, h3]
      · simp [h1, h2]
  refine ⟨fun a ha => ?_, fun a b hab hb h => ?_⟩
  · rw [e, if_neg (by omega), if_neg (by omega)]; exact d.dia a ha
  · by_cases h1 : a = i ∧ b = j
    · obtain ⟨rfl, rfl⟩ := h1
      rw [e, e, if_neg (by omega), if_pos ⟨rfl, rfl⟩, if_pos ⟨rfl, rfl⟩]
      exact p
    · rw [e, e, if_neg (by omega), if_neg h1, if_neg (by omega), if_neg (by omega)]
      exact d.pair a b hab hb (by omega)
theorem rngD_get2 {a k t : Nat} (h : t < k - a) : (rngD (a : Int) (k : Int))[t]? = some (.int ((a + t : Nat) : Int)) := by
  unfold rngD
  rw [List.getElem?_map, List.getElem?_range (by omega)]
  simp
theorem rngD_len2 {a k : Nat} : (rngD (a : Int) (k : Int)).length = k - a := by
  unfold rngD; simp
end Vw
set_option maxRecDepth 100000
set_option maxHeartbeats 4000000
namespace Vw
open PySem PySem.Spec L2
def gridD (k : Nat) (M : Nat → Nat → Str) : D := .tup ((List.range k).map fun r => D.tup (rowD k (M r)))
theorem dSeq_nx {f g : DS} {G G' : Gam} {S S' : Sto} (h : f G S = some (.nx, G', S')) : dSeq f g G S = g G' S' := by
  unfold dSeq; rw [h]; rfl
theorem dSeq_rt {f g : DS} {G G' : Gam} {S S' : Sto} {d : D} (h : f G S = some (.rt d, G', S')) : dSeq f g G S = some (.rt d, G', S') := by
  unfold dSeq; rw [h]; rfl
theorem dFor_of {w : DI} {g : DG} {b : DS} {G : Gam} {S S1 : Sto} {src : Src} {k : Nat} (h : w G S = some (src, k, S1)) : dFor w g b G S = dLoop src g b k 0 G S1 := by
  unfold dFor; rw [h]; rfl
theorem cel_at {S : Sto} {n i : Nat} {ds : List D} (h : S[n]? = some (Cell.lst ds)) : celS n i S = some ds[i]? := by
  unfold celS; rw [h]
theorem rep_row (k : Nat) : List.replicate k (D.str wDash) = rowD k (fun _ => wDash) := by
  unfold rowD
  rw [List.map_const', List.length_range]
theorem mul_row {k : Nat} {S : Sto} (hk : k ≤ 1000) : opMul true (.lst [.str wDash]) (.int k) S = some (.loc S.length, S ++ [Cell.lst (rowD k fun _ => wDash)]) := by
  show (if (0 : Int) ≤ (k : Int) ∧ (k : Int) ≤ 10000 ∧ [D.str wDash].length ≤ 10000 then okLst true (List.replicate (k : Int).toNat [D.str wDash]).flatten S else none) = _
  rw [if_pos ⟨by omega, by omega, by decide⟩, Int.toNat_natCast]
  have e : (List.replicate k [D.str wDash]).flatten = rowD k fun _ => wDash := by
    rw [← rep_row]
    induction k with
    | zero => rfl
    | succ k ih =>
      rw [List.replicate_succ, List.flatten_cons, ih (by omega), List.replicate_succ]; rfl
  rw [e]
  exact okc (by rw [rowD_len]; omega)
end Vw
set_option maxRecDepth 100000
set_option maxHeartbeats 4000000
namespace Vw
open PySem PySem.Spec L2
abbrev waysD (ws : List (List Int)) : D := .tup (ws.map fun w => .tup (intL w))
abbrev lockD (k : Nat) (M : Nat → Nat → Str) (ws : List (List Int)) (es : List Int) : D := .tup [gridD k M, waysD ws, .tup (intL es)]
abbrev four : List Str := ["stand", "bow", "pass", "slip"]
def Ways (k : Nat) (ws : List (List Int)) : Prop := ws.length = k ∧ ∀ (i : Nat) w, ws[i]? = some w → w.Perm (others k i)
def natL (es : List Nat) : List Int := es.map fun (j : Nat) => (j : Int)
end Vw
set_option maxRecDepth 100000
set_option maxHeartbeats 4000000
namespace Vw
open PySem PySem.Spec L2
theorem cut_ints (ns : List Int) (lo hi : Option Int) : ∃ ms : List Int, cutD (intL ns) lo hi = intL ms ∧ ms.length ≤ ns.length := by
  refine ⟨(ns.drop (HT.sIx (intL ns).length 0 lo)).take (HT.sIx (intL ns).length (intL ns).length hi - HT.sIx (intL ns).length 0 lo), ?_, ?_⟩
  · unfold cutD intL
    rw [List.map_take, List.map_drop]
  · rw [List.length_take, List.length_drop]; omega
theorem intL_len (xs : List Int) : (intL xs).length = xs.length := List.length_map _
end Vw
set_option maxRecDepth 100000
set_option maxHeartbeats 4000000
namespace Vw
open PySem PySem.Spec PyProof.Rows L2
/-- the code's own tuples have no dict of their own -/
def tupsIn (K : PySem.W.Frag) : Bool := K.all fun p => match p.2.cls with
  | .type n => n != "tuple" || p.2.dict.isNone
  | _ => true
theorem tups_of : ∀ {K : PySem.W.Frag}, tupsIn K = true → ∀ a o, K.lookup a = some o → o.cls = .type "tuple" → o.dict = none
  | [], _, a, o, e, _ => by cases e
  | (b, o') :: K, h, a, o, e, hc => by
    unfold tupsIn at h
    rw [List.all_cons, Bool.and_eq_true] at h
    rw [List.lookup_cons] at e
    split at e
    · cases e
      have h1 := h.1
      dsimp only at h1
      rw [hc] at h1
      simpa using h1
    · exact tups_of (K := K) h.2 a o e hc
theorem reps_ints {K : PySem.W.Frag × List Addr} {H : Hp} {m : List Addr} : ∀ ns : List Int, Reps K H m (ns.map V.int) (intL ns)
  | [] => .nil
  | n :: ns => .cons (.int n) (reps_ints ns)
/-- what is tracked as the law is called: the script, and the code objects' tables -/
noncomputable def H0 (K : PySem.W.Frag) (tb : List Addr) (a : Addr) (o : Obj) (ns : List Int) : Hp := fun b => if b ∈ tb then some (.tbl #[]) else if b = a ∧ K.lookup a = none then some (.frz o (.lst (ns.map V.int))) else none
abbrev scriptObj (vs : List Value) : Obj := { cls := .type "list", data := .seq vs.toArray }
abbrev tab0 : Obj := { cls := .none, data := .fields #[] }
section
variable {P : Program} {w : World} {K : PySem.W.Frag} {mg mb : Str → Option Value} {k : Nat} {fa a : Addr} {cs : List (Addr × Addr)} {fd : FuncData} {x : Str} {fn : DF} {s₁ : Shared} {vs : List Value} {ns : List Int}
theorem law_callG (hkt : tupsIn K = true) (KX : K.In s₁.heap) (hns : s₁.heap.Ns mainGlobals mg) (hb : s₁.heap.Ns builtinsNs mb) (hbb : ∀ x : Str, x ≠ "__name__" → mb x = bootBuiltins x) (hlim : s₁.heap.NoLimit) (hg : s₁.gens = #[])
    (hT : ∀ p ∈ cs, s₁.heap.get? p.2 = some tab0 ∧ K.lookup p.2 = none ∧ PySem.W.codeHdIn K p.1 p.2 = true)
    (hbm : ∃ (bm : Addr) (ob : Obj), mg "__builtins__" = some (.ref bm) ∧ bm ≠ builtinsNs ∧ s₁.heap.get? bm = some ob ∧ ob.cls = .type "module" ∧ ob.dict = some builtinsNs ∧ ob.data = .plain)
    (ha : s₁.heap.get? a = some (scriptObj vs)) (hi : IntsAre vs ns) (hl : ns.length ≤ sizeLine) (hr : Room k callerA)
    (F : ∀ base : Heap, K.In base → base.Ns mainGlobals mg → (∀ p ∈ cs, GxR.TabB base mg p.1 p.2) → FnG P w K mg base (L2.CX P w) k fa fd [x] (spD K (cs.map (·.2)) 1 fn))
    (hbind : ∀ (s : Shared) (u : Value), BindsTo s fd ⟨[u], []⟩ [(x, u)]) (hfn : ∃ S', fn [.scr (intL ns)] [] = some (.bl true, S')) :
    codeAny (model P w) callerA (.call (.ref fa) ⟨[.ref a], []⟩) (fun r s' => r = .ok (.ret (.bool true)) ∧ OldK s₁.heap s'.heap ∧ s'.os = s₁.os ∧ AllBare s'.gens) s₁ := by
  obtain ⟨S', hfn⟩ := hfn
  generalize hTb : cs.map (·.2) = tb at *
  have inT : ∀ b ∈ tb, ∃ p ∈ cs, p.2 = b := fun b hb => by
    subst hTb
    obtain ⟨p, hp, e⟩ := List.mem_map.mp hb
    exact ⟨p, hp, e⟩
  have ofT : ∀ p ∈ cs, p.2 ∈ tb := fun p hp => by subst hTb; exact List.mem_map.mpr ⟨p, hp, rfl⟩
  have tabAt : ∀ b ∈ tb, s₁.heap.get? b = some tab0 ∧ K.lookup b = none := fun b hb => by
    obtain ⟨p, hp, rfl⟩ := inT b hb
    exact ⟨(hT p hp).1, (hT p hp).2.1⟩
  have aT : a ∉ tb := fun z => by
    have q := (tabAt a z).1
    rw [ha] at q
    exact nomatch (congrArg Obj.data (Option.some.inj q) : Data.seq vs.toArray _ = Data.fields #[])
  generalize hH : H0 K tb a (scriptObj vs) ns = H
  have Ht : ∀ b ∈ tb, H b = some (.tbl #[]) := fun b hb => by subst hH; exact if_pos hb
  have Hcase : ∀ b u, H b = some u → (b ∈ tb ∧ u = .tbl #[]) ∨ (b = a ∧ K.lookup a = none ∧ u = .frz (scriptObj vs) (.lst (ns.map V.int))) := fun b u e => by
    subst hH
    unfold H0 at e
    split at e
    · rename_i h; exact .inl ⟨h, (Option.some.inj e).symm⟩
    · split at e
      · rename_i h; exact .inr ⟨h.1, h.2, (Option.some.inj e).symm⟩
      · cases e
  have rv := vals_ints hi
  have lenV := hi.length
  have hok : HOk P w H s₁.heap := fun b u e => by
    rcases Hcase b u e with ⟨h1, rfl⟩ | ⟨rfl, _, rfl⟩
    · exact (tabAt b h1).1
    · exact ⟨ha, by rw [List.length_map]; exact hl, vs, _, rv, ha⟩
  -- what is not tracked
  have untr : ∀ {b : Addr} {o : Obj}, s₁.heap.get? b = some o → (∀ us n, o.data ≠ .seq us n) → o.data ≠ .fields #[] → H b = none := fun {b o} e h1 h2 => by
    cases q : H b with
    | none => rfl
    | some u =>
      rcases Hcase b u q with ⟨ht, _⟩ | ⟨rfl, _, _⟩
      · rw [(tabAt b ht).1] at e; cases e; exact (h2 rfl).elim
      · rw [ha] at e; cases e; exact (h1 _ _ rfl).elim
  have toBase : ∀ {b : Addr} {o : Obj}, s₁.heap.get? b = some o → H b = none → (hidT s₁.heap H).get? b = some o := fun e n => hidT_get e n
  have nsB : ∀ {b : Addr} {m : Str → Option Value}, s₁.heap.Ns b m → (hidT s₁.heap H).Ns b m := fun {b m} ⟨o, es, ep, e, d, r⟩ =>
    ⟨o, es, ep, toBase e (untr e (fun _ _ z => by rw [d] at z; cases z) fun z => by rw [d] at z; cases z), d, r⟩
  have KB' : K.In (hidT s₁.heap H) := fun b o e => toBase (KX b o e) (by
    cases q : H b with
    | none => rfl
    | some u =>
      rcases Hcase b u q with ⟨ht, _⟩ | ⟨rfl, hk, _⟩
      · rw [(tabAt b ht).2] at e; cases e
      · rw [hk] at e; cases e)
  have hM : L2.Mod K mg (hidT s₁.heap H) := ⟨KB', nsB hns, ⟨mb, nsB hb, hbb⟩, let ⟨mc, h1, h2⟩ := hlim; ⟨mc, nsB h1, h2⟩⟩
  have TB : ∀ p ∈ cs, GxR.TabB (hidT s₁.heap H) mg p.1 p.2 := fun p hp => by
    obtain ⟨h1, h2, h3⟩ := hT p hp
    refine ⟨PySem.W.codeHd_of_K KB' h3, ?_, fun z => ?_⟩
    · obtain ⟨bm, ob, b1, b2, b3, b4, b5, b6⟩ := hbm
      refine ⟨bm, ob, b1, b2, fun q => ?_, fun q => ?_, toBase b3 (untr b3 (fun _ _ z => by rw [b6] at z; cases z) fun z => by rw [b6] at z; cases z), b4, b5, b6⟩
      · obtain ⟨o, es, ep, e, hd, _⟩ := hns
        rw [q, e] at b3
        cases b3
        rw [hd] at b6; cases b6
      · rw [q, h1] at b3
        cases b3
        cases b6
    · obtain ⟨o, es, ep, e, hd, _⟩ := hns
      rw [z, h1] at e
      cases e
      cases hd
  have e0 : Env0 P w K mg (hidT s₁.heap H) callerA [] s₁ H := ⟨rfl, hM, fun b o e => of_hidT e, Nat.le_of_eq (hidT_size _ _), trivial, (fun b hb => absurd (show b ∈ ([] : List Addr) from hb) (by simp)), hok, .of_eq hg⟩
  have okD : Ok (K, []) tb H [] [] := ⟨List.nodup_nil, rfl, fun n a ds e => by simp at e, fun n a ks ds e => by simp at e, fun p hp => ⟨#[], Ht p hp, trivial⟩, fun b hb => (by cases hb), ⟨fun b u e => by rcases Hcase b u e with ⟨_, rfl⟩ | ⟨_, _, rfl⟩ <;> exact trivial, tups_of hkt⟩⟩
  have repS : Rep (K, []) H [] (.ref a) (.scr (intL ns)) := by
    cases hk : K.lookup a with
    | none =>
      refine .scr (.inr ⟨scriptObj vs, ?_⟩) (by simp) (by simp) (reps_ints ns)
      subst hH
      show (if a ∈ tb then _ else _) = _
      rw [if_neg aT, if_pos ⟨rfl, hk⟩]
    | some o =>
      have e := KX a o hk
      rw [ha] at e
      cases e
      exact .scrK (.inr ⟨_, vs.toArray, _, hk, rfl, rfl, rfl, by rw [List.size_toArray, lenV]; exact hl, by simpa using rv⟩) (reps_ints ns)
  refine codeAny_mono ((F _ KB' (nsB hns) TB).run callerA [] s₁ H ⟨[.ref a], []⟩ [.ref a] [.ref a] (fun v _ => v = .bl true) noE hr rfl e0 (hbind s₁ (.ref a)) (.cons rfl .nil)
    ⟨[], [], [], [.scr (intL ns)], .bl true, S', rfl, okD, .one repS, hfn, fun v H' m' _ _ r => by cases r; rfl⟩) fun r s' h => ?_
  cases r with
  | error e => exact (noCX h).elim
  | ok fl =>
    cases fl with
    | next => exact False.elim h
    | brk => exact False.elim h
    | cont => exact False.elim h
    | ret u =>
      obtain ⟨v, H', os, bare, un, hok', r', q⟩ := h
      have q' : v = .bl true := q
      subst q'
      obtain rfl : u = Value.bool true := r'
      have kept : ∀ b o, b ∉ tb → s₁.heap.get? b = some o → s'.heap.get? b = some o := fun b o nb e => by
        cases z : H b with
        | none => exact un.keep b o e z (fun y => by cases y) (fun y => by cases y)
        | some u =>
          rcases Hcase b u z with ⟨ht, _⟩ | ⟨_, _, rfl⟩
          · exact absurd ht nb
          · obtain ⟨e2, _⟩ := hok' b _ (un.frzs b _ _ z)
            obtain ⟨e1, _⟩ := hok b _ z
            rw [e] at e1; cases e1
            exact e2
      have grown : ∀ b ∈ tb, ∃ more : Array Value, s'.heap.get? b = some { cls := .none, data := .fields more } := fun b hb => by
        obtain ⟨more, z⟩ := un.tbls b #[] (Ht b hb)
        exact ⟨_, hok' b _ z⟩
      refine ⟨rfl, ⟨fun b o e => ?_, fun b o e => ?_⟩, os, bare⟩
      · by_cases hb' : b ∈ tb
        · obtain ⟨p, hp, rfl⟩ := inT b hb'
          obtain ⟨more, hm⟩ := grown p.2 hb'
          obtain ⟨h1, _, h3⟩ := hT p hp
          rw [h1] at e
          cases e
          exact .inr (.inl ⟨((PySem.W.codeHd_of_K KX h3).tab h1).isCodeTable, rfl, #[], more, rfl, by rw [Array.empty_append]; exact hm⟩)
        · exact .inl (kept b o hb' e)
      · by_cases hb' : b ∈ tb
        · obtain ⟨more, hm⟩ := grown b hb'
          exact ⟨_, hm⟩
        · exact ⟨o, kept b o hb' e⟩
end
/-- what is known of the law as the head ends -/
def LawG (l : PySem.W.OpenLaw) (w : World) (K : PySem.W.Frag) (k n : Nat) (x : Str) (mg : Str → Option Value) (fa : Addr) (h : Heap) : Prop :=
  tupsIn K = true ∧ ∃ (fd : FuncData) (cs : List (Addr × Addr)) (fn : DF), (∀ p ∈ cs, h.get? p.2 = some tab0 ∧ K.lookup p.2 = none ∧ PySem.W.codeHdIn K p.1 p.2 = true) ∧ (∀ (s : Shared) (u : Value), BindsTo s fd ⟨[u], []⟩ [(x, u)]) ∧
    (∀ ns : List Int, ns.length ≤ n → ∃ S', fn [.scr (intL ns)] [] = some (.bl true, S')) ∧
    ∀ base : Heap, K.In base → base.Ns mainGlobals mg → (∀ p ∈ cs, GxR.TabB base mg p.1 p.2) → FnG l.prog w K mg base (L2.CX l.prog w) k fa fd [x] (spD K (cs.map (·.2)) 1 fn)
theorem walk_ofG {l : PySem.W.OpenLaw} {n k : Nat} {q : Program} {loose : List Str} {XP : (Str → Option Value) → Heap → Prop} {YP : World → Heap → Prop} {d : DefRec} {K : Params → PySem.W.Frag} {x : Str}
    (hn : l.most = some n) (hn2 : n ≤ sizeLine) (hdf : d.params.defaults = []) (hr : Room k callerA) (hY : ∀ (w : World) (h : Heap), YP w h → (K w.params).In h)
    (F : ∀ (w : World) (mg : Str → Option Value) (fa : Addr) (h : Heap), YP w h → (K w.params).In h → h.Ns mainGlobals mg → mg d.name = some (.ref fa) →
      (∀ (y : Str) (dd : DefRec) (c P : Addr), (recsOf q).find? (fun e => e.name == y) = some dd → PySem.W.tabIn (K w.params) y = some (c, P) → h.get? P = some tab0) → LawG l w (K w.params) k n x mg fa h) :
    PySem.W.WalkO q loose XP YP l.row.toRowW d [] (fun f vs => PySem.call f vs) := by
  refine Att.attach_callB hn hdf fun w s₀ s₁ mg mb fa o pm cd doc a vs ns G Y ho hd hcd hmg hobj hints hlen hbits hg => ?_
  have KX := hY w _ Y
  obtain ⟨hkt, fd, cs, fn, hT, hb, hfn, hF⟩ := F w mg fa _ Y KX G.T.g hmg fun y dd c P h1 h2 => (PySem.W.tab_of G.T KX h1 h2).2
  exact law_callG hkt KX G.T.g G.T.b G.T.builtins G.T.nolimit hg hT G.T.bmain hobj hints (Nat.le_trans hlen hn2) hr hF hb (hfn ns hlen)
theorem tab_in {K : PySem.W.Frag} {x : Str} {f q P : Addr} {od dq : Option Addr} {oc oq : Value} {fd : FuncData} {sl sq : Array (Option Value)} {vq : Array Value} (a : PySem.W.nsIn K mainGlobals x = some (some (.ref f))) (l : K.lookup f = some ⟨oc, od, .func fd, sl⟩) (e : fd.code = .ref q)
    (v : K.lookup q = some ⟨oq, dq, .fields vq, sq⟩) (p : (vq[11]? : Option Value) = some (.ref P)) : PySem.W.tabIn K x = some (q, P) := by
  unfold PySem.W.tabIn
  rw [a]
  simp only [l, e, v, p]
end Vw
namespace Vw
open PySem PySem.Spec L2
section
variable {G : Gam} {S S1 S2 S3 : Sto}
theorem dCons_of {f : DE} {fs : DA} {d : D} {ds : List D} (h1 : f G S = some (d, S1)) (h2 : fs G S1 = some (ds, S2)) : dCons f fs G S = some (d :: ds, S2) := by
  unfold dCons
  simp only [h1, Option.bind_some, h2]
theorem dOne_of {f : DE} {d : D} (h1 : f G S = some (d, S1)) : dCons f dNil G S = some ([d], S1) := dCons_of h1 rfl
theorem dCall_of {op : OpC} {fs : DA} {ds : List D} {r : Option (D × Sto)} (h1 : fs G S = some (ds, S1)) (h2 : op ds S1 = r) : dCall op fs G S = r := by
  unfold dCall
  simp only [h1, Option.bind_some, h2]
theorem dCallF_of {n : Nat} {fs : DA} {fn : DF} {ds : List D} {r : Option (D × Sto)} (h1 : fs G S = some (ds, S1)) (hn : ds.length = n) (h2 : fn ds S1 = r) : dCallF n fs fn G S = r := by
  unfold dCallF
  simp only [h1, Option.bind_some, hn, if_true, h2]
theorem dBin_of {op : D → D → Sto → Option (D × Sto)} {f g : DE} {x y : D} {r : Option (D × Sto)} (h1 : f G S = some (x, S1)) (h2 : g G S1 = some (y, S2)) (h3 : op x y S2 = r) : dBin op f g G S = r := by
  unfold dBin
  simp only [h1, Option.bind_some, h2, h3]
theorem dTst_of {f : DE} {b : Bool} (h : f G S = some (.bl b, S1)) : dTst f G S = some (b, S1) := by
  unfold dTst
  simp only [h, Option.bind_some]
theorem dCmpT_of {op : D → D → Sto → Option (D × Sto)} {f g : DE} {x y : D} {b : Bool} (h1 : f G S = some (x, S1)) (h2 : g G S1 = some (y, S2)) (h3 : op x y S2 = some (.bl b, S3)) : dCmpT op f g G S = some (b, S3) := dTst_of (dBin_of h1 h2 h3)
theorem dRet_of {f : DE} {d : D} (h : f G S = some (d, S1)) : dRet f G S = some (.rt d, G, S1) := by
  unfold dRet
  simp only [h, Option.bind_some]
theorem dAsg_of {f : DE} {i : Nat} {d : D} (h : f G S = some (d, S1)) : dAsg f (dgName i) G S = some (.nx, G.set i (some d), S1) := by
  unfold dAsg
  simp only [h, Option.bind_some]; rfl
theorem dExpr_of {f : DE} {d : D} (h : f G S = some (d, S1)) : dExpr f G S = some (.nx, G, S1) := by
  unfold dExpr
  simp only [h, Option.bind_some]
theorem dIte_f {t : DT} {f g : DS} (h : t G S = some (false, S1)) : dIte t f g G S = g G S1 := by
  unfold dIte
  simp only [h, Option.bind_some, Bool.false_eq_true, if_false]
theorem dIte_t {t : DT} {f g : DS} (h : t G S = some (true, S1)) : dIte t f g G S = f G S1 := by
  unfold dIte
  simp only [h, Option.bind_some, if_true]
theorem dOr_ff {a b : DT} (h1 : a G S = some (false, S1)) (h2 : b G S1 = some (false, S2)) : dOr a b G S = some (false, S2) := by
  unfold dOr
  simp only [h1, Option.bind_some, Bool.false_eq_true, if_false, h2]
theorem dNot_of {a : DT} {b : Bool} (h1 : a G S = some (b, S1)) : dNot a G S = some (!b, S1) := by
  unfold dNot
  simp only [h1, Option.bind_some]
theorem dLst_of {fs : DA} {ds : List D} (h : fs G S = some (ds, S1)) (hl : ds.length ≤ 1000000) : dLst false fs G S = some (.lst ds, S1) := by
  unfold dLst
  simp only [h, Option.bind_some]
  exact okv hl
theorem dTup_of {fs : DA} {ds : List D} (h : fs G S = some (ds, S1)) (hl : ds.length ≤ 1000000) : dTup fs G S = some (.tup ds, S1) := by
  unfold dTup
  simp only [h, Option.bind_some]
  exact okt hl
theorem dSeqI_t {f : DE} {ds : List D} (h : f G S = some (.tup ds, S1)) : dSeqI f G S = some (fixS ds, ds.length + 1, S1) := by
  unfold dSeqI
  simp only [h, Option.bind_some]; rfl
theorem dPar_of {i j : Nat} {fs : DA} {x y : D} (h : fs G S = some ([x, y], S1)) : dPar i j fs G S = some (.nx, (G.set i (some x)).set j (some y), S1) := by
  unfold dPar
  simp only [h, Option.bind_some]
end
theorem in_ints {neg : Bool} {z : Int} {e : List Int} {S : Sto} : opIn neg (.int z) (.tup (intL e)) S = some (.bl (if neg then !(decide (z ∈ e)) else decide (z ∈ e)), S) := by
  have h1 : ∀ e : List Int, (intL e).all flatD = true := fun e => by
    induction e with
    | nil => rfl
    | cons a e ih => exact ih
  have h2 : ∀ e : List Int, ((intL e).any (eqF · (.int z))) = decide (z ∈ e) := fun e => by
    induction e with
    | nil => rfl
    | cons a e ih =>
      show ((a == z) || (intL e).any (eqF · (.int z))) = _
      rw [ih]
      by_cases h : a = z
      · subst h; simp
      · have h' : ¬ z = a := fun x => h x.symm
        simp [h, h']
  unfold opIn inD
  show (((if flatD (.int z) && (intL e).all flatD then some ((intL e).any (eqF · (.int z))) else inP S (.int z) (.tup (intL e)))).map _) = _
  rw [h1, h2]; rfl
end Vw
set_option maxRecDepth 100000
set_option maxHeartbeats 4000000
namespace Vw
open PySem PySem.Spec PyProof.Rows L2
section
variable {X : Cx} {T : List Addr} {k : Nat} {a b c e o : Expr} {es : List Expr} {pos p apos cpos : Pos} {fa fb fc fe fo : DE} {fs : DA} {ta tb : DT}
theorem eIs (ha : PE X a (tD X.K T fa)) (hb : PE X b (tD X.K T fb)) : PE X (.Compare a [.Is] [b] pos) (tD X.K T (dBin (opIsN false) fa fb)) := rBin (pe_cmpR op_isN ha hb (nomark _)) rule_isN
theorem tIs (ha : PE X a (tD X.K T fa)) (hb : PE X b (tD X.K T fb)) : PT X (.Compare a [.Is] [b] pos) (tB X.K T (dCmpT (opIsN false) fa fb)) := rCmpT (pt_cmpR op_isN ha hb (nomark _)) rule_isN
theorem tIsNot (ha : PE X a (tD X.K T fa)) (hb : PE X b (tD X.K T fb)) : PT X (.Compare a [.IsNot] [b] pos) (tB X.K T (dCmpT (opIsN true) fa fb)) := rCmpT (pt_cmpR op_notN ha hb (nomark _)) rule_notN
abbrev Es1 (X : Cx) (e : Expr) (es : List Expr) : Prop := starEach (e :: es) X.env = (false, eval e X.env) :: starEach es X.env
abbrev Pl1 (X : Cx) (pos : Pos) (es : List Expr) : Prop := (backTo pos (starEach es X.env)).any (·.1) = false
theorem eAll (F : Fit X k) (m : X.mg "all" = none) (g : Gl X "all") (ha : PA X (e :: es) (tA X.K T fs)) (he : Es1 X e es := by rfl) (hpl : Pl1 X pos es := by rfl) : PE X (.Call (.Name "all" p) (e :: es) [] pos) (tD X.K T (dCall opAll fs)) := rCall (pe_callB (cr_all F.calm) g m (by decide +kernel) ha (by decide) (by decide) he hpl) rule_all
def sortI (ns : List Int) : List Int := ns.mergeSort fun i j => decide (i ≤ j)
theorem sortI_perm (ns : List Int) : (sortI ns).Perm ns := List.mergeSort_perm _ _
theorem sortI_pw (ns : List Int) : (sortI ns).Pairwise (· ≤ ·) := by
  have := List.pairwise_mergeSort (le := fun i j : Int => decide (i ≤ j)) (fun a b c h1 h2 => by simp only [decide_eq_true_eq] at *; omega) (fun a b => by simp only [Bool.or_eq_true, decide_eq_true_eq]; omega) ns
  exact this.imp fun h => of_decide_eq_true h
theorem sortI_only {ns ms : List Int} (h : ms.Perm ns) (hp : ms.Pairwise (· ≤ ·)) : ms = sortI ns :=
  List.Perm.eq_of_pairwise (le := (· ≤ ·)) (fun a b _ _ h1 h2 => by omega) hp (sortI_pw ns) (h.trans (sortI_perm ns).symm)
def opSorted (c : Bool) : OpC := fun cs S => match cs with
  | [x] => (lstD S x).bind fun ds => (intsD ds).bind fun ns => if ns.length < 64 then okLst c ((sortI ns).map D.int) S else none
  | _ => none
theorem reps_intV {K : PySem.W.Frag × List Addr} {H : Hp} {m : List Addr} : ∀ ns : List Int, Reps K H m (ns.map V.int) (ns.map D.int)
  | [] => .nil
  | n :: ns => .cons (.int n) (reps_intV ns)
theorem rule_sorted {K : PySem.W.Frag} {T : List Addr} {c : Bool} : RuleC K T (rSorted K) (opSorted c) := by
  intro Z H m S xs cs z S' Q ok r f q
  unfold opSorted at f
  split at f
  · obtain ⟨x, rfl, rx⟩ := one_inv r
    obtain ⟨ds, e, f⟩ := Option.bind_eq_some_iff.mp f
    obtain ⟨bs, e2, f⟩ := Option.bind_eq_some_iff.mp f
    split at f
    · rename_i hl
      obtain ⟨p, ys, rfl, hq, rs⟩ := lstD_ok ok rx e
      have e3 := ints_ok rs e2
      subst e3
      refine ⟨p, bs, rfl, SqL.of hq, hl, fun ns' l h1 h2 hf => ?_⟩
      rw [sortI_only h1 h2]
      exact newLst (Q := Q) ok hf (reps_intV _) f q
    · cases f
  · cases f
def dChain (op op' : D → D → Sto → Option (D × Sto)) (fa fb fc : DE) : DE := fun G S => (fa G S).bind fun x => (fb G x.2).bind fun y => (op x.1 y.1 y.2).bind fun z => match z.1 with
  | .bl true => (fc G z.2).bind fun w => op' y.1 w.1 w.2
  | .bl false => some (.bl false, z.2)
  | _ => none
theorem openChain {r r' : R2} {op op' : D → D → Sto → Option (D × Sto)} (ro : Rule2 X.K T r op) (ro' : Rule2 X.K T r' op') : ∀ σ H Q, tD X.K T (dChain op op' fa fb fc) σ H Q → tChain r r' (tD X.K T fa) (tD X.K T fb) (tD X.K T fc) σ H Q := by
  rintro σ H Q ⟨Z, G, S, m, d, S', ok, en, f, q⟩
  unfold dChain at f
  obtain ⟨⟨x, S1⟩, e1, f⟩ := Option.bind_eq_some_iff.mp f
  obtain ⟨⟨y, S2⟩, e2, f⟩ := Option.bind_eq_some_iff.mp f
  obtain ⟨⟨z, S3⟩, e3, f⟩ := Option.bind_eq_some_iff.mp f
  refine tD.go ok en e1 fun v H1 m1 x1 o1 en1 r1 => ?_
  refine tD.go o1 en1 e2 fun u H2 m2 x2 o2 en2 r2 => ?_
  refine ro Z H2 m2 S2 v u x y z S3 _ o2 (r1.mono x2 o1) r2 e3 fun w H3 m3 x3 o3 r3 => ?_
  have en3 := en2.mono x3 o2
  cases z with
  | bl k =>
    cases r3
    refine ⟨k, rfl, ?_⟩
    cases k with
    | true =>
      obtain ⟨⟨w, S4⟩, e4, f⟩ := Option.bind_eq_some_iff.mp f
      rw [if_pos rfl]
      refine tD.go o3 en3 e4 fun w' H4 m4 x4 o4 en4 r4 => ?_
      exact ro' Z H4 m4 S4 u w' y w d S' Q o4 ((r2.mono x3 o2).mono x4 o3) r4 f fun v' H5 m5 x5 o5 r5 => q v' H5 m5 (((x1.trans x2).trans x3).trans (x4.trans x5)) o5 r5
    | false =>
      cases f
      rw [if_neg (by decide)]
      exact q _ H3 m3 ((x1.trans x2).trans x3) o3 (.bl _)
  | _ => cases f
theorem eChain {o1 o2 : CmpOp} {r r' : R2} {op op' : D → D → Sto → Option (D × Sto)} (h1 : OpR X (compareOp o1) r) (h2 : OpR X (compareOp o2) r') (ro : Rule2 X.K T r op) (ro' : Rule2 X.K T r' op') (ha : PE X a (tD X.K T fa)) (hb : PE X b (tD X.K T fb)) (hc : PE X c (tD X.K T fc)) (hm : lastMarks [o1, o2] [b, c] = false) :
    PE X (.Compare a [o1, o2] [b, c] pos) (tD X.K T (dChain op op' fa fb fc)) := peImp (pe_chain h1 h2 ha hb hc hm) (openChain ro ro')
theorem tChain2 {o1 o2 : CmpOp} {r r' : R2} {op op' : D → D → Sto → Option (D × Sto)} (h1 : OpR X (compareOp o1) r) (h2 : OpR X (compareOp o2) r') (ro : Rule2 X.K T r op) (ro' : Rule2 X.K T r' op') (ha : PE X a (tD X.K T fa)) (hb : PE X b (tD X.K T fb)) (hc : PE X c (tD X.K T fc)) (hm : lastMarks [o1, o2] [b, c] = false) :
    PT X (.Compare a [o1, o2] [b, c] pos) (tB X.K T (dTst (dChain op op' fa fb fc))) := by
  refine ptImp (pt_chain h1 h2 ha hb hc hm) fun σ H Q ⟨Z, G, S, m, bb, S', ok, en, f, q⟩ => ?_
  unfold dTst at f
  obtain ⟨⟨x, S1⟩, e1, f⟩ := Option.bind_eq_some_iff.mp f
  refine openChain ro ro' σ H _ ?_
  refine tD.go ok en e1 fun v H1 m1 x1 o1 en1 r1 => ?_
  cases x with
  | bl c => cases f; cases r1; exact ⟨_, rfl, q H1 m1 x1 o1⟩
  | _ => cases f
end
end Vw
set_option maxRecDepth 100000
set_option maxHeartbeats 4000000
namespace Vw
open PySem PySem.Spec PyProof.Rows L2
/-- the name of a value's type; none where it is not asked -/
def tyN (S : Sto) : D → Option String
  | .non => some "NoneType"
  | .bl _ => some "bool"
  | .int _ => some "int"
  | .str _ => some "str"
  | .tup _ => some "tuple"
  | .lst _ => some "list"
  | .dic _ _ => some "dict"
  | .loc n => match S[n]? with
    | some (.lst _) => some "list"
    | some (.dic _ _) => some "dict"
    | none => none
  | .scr _ => none
theorem ty_rdT {K : PySem.W.Frag} {H : Hp} {a : Addr} {xs : List V} (h : SqT K H a xs) : TyX K H (.ref a) (.type "tuple") := by
  rcases h with (h | ⟨o, h⟩) | ⟨o, its, n, h1, h2, _⟩
  · exact .base (.tup h)
  · exact .fTuple h
  · exact .kTuple h1 h2
theorem ty_rdD {K : PySem.W.Frag} {H : Hp} {a : Addr} {kvs : List (Key × V)} (h : Rd H a (.dK kvs)) : TyX K H (.ref a) (.type "dict") := by
  rcases h with h | ⟨o, h⟩
  · exact .base (.dK h)
  · exact .fDict h
theorem ty_ok {K : PySem.W.Frag × List Addr} {T : List Addr} {H : Hp} {m : List Addr} {S : Sto} {v : V} {d : D} {t : String} (ok : Ok K T H m S) (r : Rep K H m v d) (e : tyN S d = some t) : TyX K.1 H v (.type t) := by
  unfold tyN at e
  split at e
  · cases e; cases r; exact .base .non
  · cases e; cases r; exact .base (.bl _)
  · cases e; cases r; exact .base (.int _)
  · cases e; cases r; exact .base (.str _)
  · cases e
    cases r with
    | tup h _ => exact ty_rdT h
  · cases e
    cases r with
    | lst h _ _ _ => exact .base (.lst h)
  · cases e
    cases r with
    | dic h _ _ _ _ => exact ty_rdD h
  · rename_i n
    cases r with
    | loc h =>
      split at e
      · rename_i es
        cases e
        obtain ⟨xs, q, _⟩ := ok.lst _ _ _ h es
        exact .base (.lst q)
      · rename_i es
        cases e
        obtain ⟨kvs, q, _⟩ := ok.dic _ _ _ _ h es
        exact .base (.dK q)
      · cases e
  · cases e
section
variable {X : Cx} {T : List Addr} {k : Nat} {a b c e o : Expr} {es : List Expr} {pos p p2 apos cpos : Pos} {fa fb fc fe fo : DE} {fs : DA}
def dIsi (n : String) (fe : DE) : DE := fun G S => (fe G S).bind fun p => (tyN p.2 p.1).bind fun t => (kitB t n).map fun b => (.bl b, p.2)
theorem eIsi (n : String) {y : Str} (h : PE X e (tD X.K T fe)) (m : X.mg "isinstance" = none) (g : Gl X "isinstance") (m2 : X.mg y = none) (g2 : Gl X y) (hv : bootBuiltins y = some (.type n)) (hy : y ≠ "__name__") (hy2 : (y == ("__debug__" : Str)) = false)
    (he : Es1 X e [.Name y p2] := by rfl) (hpl : Pl1 X pos [.Name y p2] := by rfl) (he2 : Es1 X (.Name y p2) [] := by rfl) : PE X (.Call (.Name "isinstance" p) [e, .Name y p2] [] pos) (tD X.K T (dIsi n fe)) := by
  have hT : PE X (.Name y p2) (tC (.ty n)) := pe_bltn g2 m2 hv rfl hy hy2
  refine peImp (pe_callB call_isi g m (by decide +kernel) (pa_cons h (pa_cons hT pa_nil he2) he) (by decide) (by decide) he hpl) fun σ H Q ⟨Z, G, S, m, d, S', ok, en, f, q⟩ => ?_
  unfold dIsi at f
  obtain ⟨⟨x, S1⟩, e1, f⟩ := Option.bind_eq_some_iff.mp f
  obtain ⟨t, e2, f⟩ := Option.bind_eq_some_iff.mp f
  obtain ⟨b, e3, f⟩ := Option.map_eq_some_iff.mp f
  cases f
  refine tD.go ok en e1 fun v H1 m1 x1 o1 en1 r1 => ?_
  exact ⟨v, .ty n, .type t, .type n, b, rfl, .ty n, ty_ok o1 r1 e2, kit_ty e3, q _ H1 m1 x1 o1 (.bl b)⟩
theorem eGInt {x : Str} {i : Int} {t : Tok} (hm : X.mg x = some (.int i t)) (hg : Gl X x) (hd : (x == ("__debug__" : Str)) = false) : PE X (.Name x pos) (tD X.K T (dCon (.int i))) := rCon (pe_glob (v := .int i) hg hm ⟨t, rfl⟩ hd) fun _ _ _ _ _ => .int _
/-- flat data as a value of the head -/
def flatV1 : Value → Option (V × D)
  | .none => some (.non, .non)
  | .bool b => some (.bl b, .bl b)
  | .int i _ => some (.int i, .int i)
  | .str x _ => some (.str x, .str x)
  | _ => none
theorem flatV1_ok {K : PySem.W.Frag × List Addr} {H : Hp} {m : List Addr} {u : Value} {v : V} {d : D} (h : flatV1 u = some (v, d)) : RelV v u ∧ Rep K H m v d := by
  unfold flatV1 at h
  split at h <;> cases h
  · exact ⟨rfl, .non⟩
  · exact ⟨rfl, .bl _⟩
  · exact ⟨⟨_, rfl⟩, .int _⟩
  · exact ⟨⟨_, rfl⟩, .str _⟩
def flatVs : List Value → Option (List V × List D)
  | [] => some ([], [])
  | u :: us => (flatV1 u).bind fun p => (flatVs us).map fun q => (p.1 :: q.1, p.2 :: q.2)
theorem flatVs_ok {K : PySem.W.Frag × List Addr} {H : Hp} {m : List Addr} : ∀ {us : List Value} {vs : List V} {ds : List D}, flatVs us = some (vs, ds) → Vals vs us ∧ Reps K H m vs ds
  | [], _, _, h => by cases h; exact ⟨.nil, .nil⟩
  | u :: us, vs, ds, h => by
    unfold flatVs at h
    obtain ⟨⟨v, d⟩, e1, h⟩ := Option.bind_eq_some_iff.mp h
    obtain ⟨⟨vs', ds'⟩, e2, h⟩ := Option.map_eq_some_iff.mp h
    cases h
    obtain ⟨a1, a2⟩ := flatV1_ok (K := K) (H := H) (m := m) e1
    obtain ⟨b1, b2⟩ := flatVs_ok (K := K) (H := H) (m := m) e2
    exact ⟨.cons a1 b1, .cons a2 b2⟩
/-- a constant that is a tuple of flat data -/
theorem eGTup {x : Str} {P : Addr} {od : Option Addr} {its : Array Value} {n : Nat} {sl : Array (Option Value)} {vs : List V} {ds : List D} (hm : X.mg x = some (.ref P)) (hg : Gl X x) (hk : X.K.lookup P = some ⟨.type "tuple", od, .seq its n, sl⟩)
    (hs : its.size ≤ sizeLine) (hf : flatVs its.toList = some (vs, ds)) (hd : (x == ("__debug__" : Str)) = false) : PE X (.Name x pos) (tD X.K T (dCon (.tup ds))) :=
  rCon (pe_glob (v := .ref P) hg hm rfl hd) fun Z H m S ok => .tup (.inr ⟨_, its, n, hk, rfl, rfl, hs, (flatVs_ok (K := (X.K, Z)) (H := H) (m := m) hf).1⟩) (flatVs_ok hf).2
end
end Vw
set_option maxRecDepth 100000
set_option maxHeartbeats 4000000
namespace Vw
open PySem PySem.Spec PyProof.Rows L2
def dSlG (c : Bool) (fe : DE) (fl fh : DO) : DE := fun G S => (fe G S).bind fun p => (fl G p.2).bind fun l => (fh G l.2).bind fun h => match p.1 with
  | .tup xs => okTup (cutD xs l.1 h.1) h.2
  | d => (lstS h.2 d).bind fun xs => okLst c (cutD xs l.1 h.1) h.2
theorem cut_whole {xs : List D} {lo hi : Option Int} (h : HT.sIx xs.length 0 lo = 0 ∧ HT.sIx xs.length xs.length hi = xs.length) : cutD xs lo hi = xs := by
  unfold cutD
  rw [h.1, h.2]
  simp
section
variable {X : Cx} {T : List Addr}
theorem rSlG {e : Expr} {lo hi : Option Expr} {p2 pos : Pos} {c : Bool} {fe : DE} {fl fh : DO} (he : PE X e (tD X.K T fe)) (hl : PO X lo (tOD X.K T fl)) (hh : PO X hi (tOD X.K T fh)) : PE X (.Subscript e (.Slice lo hi none p2) pos) (tD X.K T (dSlG c fe fl fh)) := by
  refine peImp (pe_slice (SlR.or sl_list sl_madeT) he hl hh) fun σ H Q ⟨Z, G, S, m, d, S', ok, en, f, q⟩ => ?_
  unfold dSlG at f
  obtain ⟨⟨d0, S1⟩, e1, f⟩ := Option.bind_eq_some_iff.mp f
  obtain ⟨⟨l, S2⟩, e2, f⟩ := Option.bind_eq_some_iff.mp f
  obtain ⟨⟨h, S3⟩, e3, f⟩ := Option.bind_eq_some_iff.mp f
  refine tD.go ok en e1 fun v H1 m1 x1 o1 en1 r1 => ?_
  refine ⟨Z, G, S1, m1, l, S2, o1, en1, e2, fun H2 m2 x2 o2 => ?_⟩
  refine ⟨Z, G, S2, m2, h, S3, o2, en1.mono x2 o1, e3, fun H3 m3 x3 o3 => ?_⟩
  have r3 := (r1.mono x2 o1).mono x3 o2
  dsimp only at f
  split at f
  · rename_i ds
    cases r3 with
    | tup hq rs =>
      refine .inr ⟨_, _, rfl, hq, fun hw => ?_, fun _ p ob hp hb => ?_⟩
      · rw [rs.len] at hw
        rw [cut_whole hw] at f
        unfold okTup at f
        split at f
        · cases f
          exact q _ H3 m3 ((x1.trans x2).trans x3) o3 (.tup hq rs)
        · cases f
      · exact newTup (Q := Q) o3 hp hb (cut_reps rs l h) f fun w H4 m4 x4 o4 r4 => q w H4 m4 (((x1.trans x2).trans x3).trans x4) o4 r4
  · obtain ⟨ds, e4, f⟩ := Option.bind_eq_some_iff.mp f
    obtain ⟨a, xs, rfl, hq, rs⟩ := lstS_ok o3 r3 e4
    refine .inl ⟨a, xs, rfl, hq, fun p hp => ?_⟩
    exact newLst (Q := Q) o3 hp (cut_reps rs l h) f fun w H4 m4 x4 o4 r4 => q w H4 m4 (((x1.trans x2).trans x3).trans x4) o4 r4
end
end Vw
set_option maxRecDepth 100000
set_option maxHeartbeats 4000000
namespace Vw
open PySem PySem.Spec PyProof.Rows L2
theorem mul_by1 (l : Addr) (its : Array Value) (n : Nat) (dd : Option Addr) (sl : Array (Option Value)) (u : Tok) :
    Meets (Builtin.«tuple.__mul__» ⟨[.ref l, .int 1 u], []⟩) (fun _ R s => s.heap.get? l = some ⟨.type "tuple", dd, .seq its n, sl⟩ ∧ R (.ok (.ret (Value.ref l))) s) :=
  .of_wp fun pr w A R s ⟨hl, h⟩ => by
    obtain ⟨hp, g, d, tk, os⟩ := s
    have f1 := AutoSeq1.idx_int
    have c1 : (its.isEmpty || (1 : Int) == 1) = true := by simp
    (wp_walk using wpAny_loadPart' hl)
    repeat (first
      | (refine wpAny_ite_true (decide_eq_true (by rw [c1])) ?_; (wp_walk using wpAny_loadPart' hl))
      | (refine wpAny_ite_false (decide_eq_false (by decide)) ?_; (wp_walk using wpAny_loadPart' hl)))
    exact ⟨_, rfl, h⟩
theorem mul_by0 (l : Addr) (its : Array Value) (n : Nat) (dd : Option Addr) (sl : Array (Option Value)) (u : Tok) (he : its.isEmpty = false) :
    Meets (Builtin.«tuple.__mul__» ⟨[.ref l, .int 0 u], []⟩) (fun _ R s => s.heap.get? l = some ⟨.type "tuple", dd, .seq its n, sl⟩ ∧
      R (.ok (.ret (Value.ref s.heap.objs.size))) { s with heap := s.heap.push { cls := Value.type "tuple", data := Data.seq #[] }, toks := s.toks }) :=
  .of_wp fun pr w A R s ⟨hl, h⟩ => by
    obtain ⟨hp, g, d, tk, os⟩ := s
    have f1 := AutoSeq1.idx_int
    have c1 : (its.isEmpty || (0 : Int) == 1) = false := by rw [he]; rfl
    have c2 : (decide ((0 : Int) ≤ 0) || its.isEmpty) = true := by simp
    (wp_walk using wpAny_loadPart' hl)
    repeat (first
      | (refine wpAny_ite_false (decide_eq_false (by rw [c1]; exact Bool.false_ne_true)) ?_; (wp_walk using wpAny_loadPart' hl))
      | (refine wpAny_ite_true (decide_eq_true (by rw [c2])) ?_; (wp_walk using wpAny_loadPart' hl))
      | (refine wpAny_ite_false (decide_eq_false (by decide)) ?_; (wp_walk using wpAny_loadPart' hl)))
    exact ⟨_, rfl, h⟩
/-- a tuple that is not empty, times 0 or 1 -/
def rRep01 (K : PySem.W.Frag) : R2 := fun x y H Q => ∃ l k xs, x = .ref l ∧ y = .int k ∧ SqT K H l xs ∧ xs ≠ [] ∧ ((k = 1 ∧ Q (.ref l) H) ∨ (k = 0 ∧ MadeT Q [] H))
theorem op_rep01 {X : Cx} : OpR X (binaryOp .Mult) (rRep01 X.K) := by
  intro pins s σ H x y v u Q I rx ry h
  obtain ⟨l, k, xs, rfl, rfl, hT, hne, h⟩ := h
  cases rx
  obtain ⟨t, rfl⟩ := ry
  obtain ⟨its, r, ⟨⟨cls, dd, data, sl⟩, ho, hc, n, hd⟩, hs⟩ := I.tuple hT
  cases (show cls = _ from hc)
  cases (show data = _ from hd)
  have hi : its.toArray.isEmpty = false := by
    cases its with
    | nil => cases r; exact absurd rfl hne
    | cons a b => rfl
  rcases h with ⟨rfl, q⟩ | ⟨rfl, q⟩
  · exact wpAny_binaryOp_repeat_ref (T := "tuple") (U := "int") (by decide) ⟨_, ho, rfl⟩ (fun s' => typeIs_int s' 1 t) noFill_tuple_mul F.fills_int_mul F.slot_int_rmul repeat_tuple F.slot_int_index.lookup
      (call_meets F.slot_int_rmul (typeIs_int s 1 t) F.entry_int_rmul (F.args_int_rmul_2 _ _) (int_rmul_tuple 1 t l its.toArray n dd sl)
        ⟨ho, rfl, ⟨_, ho, rfl⟩, call_meets F.slot_tuple_mul ⟨_, ho, rfl⟩ F.entry_tuple_mul (F.args_tuple_mul_2 _ _) (mul_by1 l its.toArray n dd sl t) ⟨ho, .ref l, H, I, rfl, q⟩⟩)
  · refine wpAny_binaryOp_repeat_ref (T := "tuple") (U := "int") (by decide) ⟨_, ho, rfl⟩ (fun s' => typeIs_int s' 0 t) noFill_tuple_mul F.fills_int_mul F.slot_int_rmul repeat_tuple F.slot_int_index.lookup
      (call_meets F.slot_int_rmul (typeIs_int s 0 t) F.entry_int_rmul (F.args_int_rmul_2 _ _) (int_rmul_tuple 0 t l its.toArray n dd sl)
        ⟨ho, rfl, ⟨_, ho, rfl⟩, call_meets F.slot_tuple_mul ⟨_, ho, rfl⟩ F.entry_tuple_mul (F.args_tuple_mul_2 _ _) (mul_by0 l its.toArray n dd sl t hi) ⟨ho, ?_⟩⟩)
    exact made I .nil (Nat.zero_le _) q
/-- as opMul; tuples, too, times 0 or 1 -/
def opMulA (c : Bool) : D → D → Sto → Option (D × Sto)
  | .tup xs, .int k, S => if k = 1 ∧ xs.isEmpty = false then some (.tup xs, S) else if k = 0 ∧ xs.isEmpty = false then some (.tup [], S) else opMul c (.tup xs) (.int k) S
  | x, y, S => opMul c x y S
theorem rule_mulA {K : PySem.W.Frag} {T : List Addr} {c : Bool} : Rule2 K T (rOr (rMul K) (rRep01 K)) (opMulA c) := by
  intro Z H m S x y a b z S' Q ok rx ry f q
  unfold opMulA at f
  split at f
  · split at f
    · rename_i hc
      obtain ⟨rfl, hx⟩ := hc
      cases f
      cases ry
      cases rx with
      | tup h r =>
        refine .inr ⟨_, _, _, rfl, rfl, h, fun e => ?_, .inl ⟨rfl, q _ H m Ext.refl ok (.tup h r)⟩⟩
        subst e; cases r; cases hx
    · split at f
      · rename_i hc
        obtain ⟨rfl, hx⟩ := hc
        cases f
        cases ry
        cases rx with
        | tup h r =>
          refine .inr ⟨_, _, _, rfl, rfl, h, fun e => ?_, .inr ⟨rfl, fun p ob hp hb => ?_⟩⟩
          · subst e; cases r; cases hx
          · exact newTup (Q := Q) ok hp hb .nil (show okTup [] S = some (.tup [], S) from rfl) q
      · exact .inl (rule_mul Z H m S x y _ _ z S' Q ok rx ry f q)
  · exact .inl (rule_mul Z H m S x y _ _ z S' Q ok rx ry f q)
section
variable {X : Cx} {T : List Addr} {a b : Expr} {pos : Pos} {fa fb : DE}
theorem eMulA (l : Bool) (ha : PE X a (tD X.K T fa)) (hb : PE X b (tD X.K T fb)) : PE X (.BinOp a .Mult b pos) (tD X.K T (dBin (opMulA l) fa fb)) := rBin (pe_op (opOr opr_mul op_rep01) ha hb) rule_mulA
end
end Vw
set_option maxRecDepth 100000
set_option maxHeartbeats 4000000
namespace Vw
open PySem PySem.Spec PyProof.Rows L2
end Vw
set_option maxRecDepth 100000
set_option maxHeartbeats 4000000
namespace Vw
open PySem PySem.Spec PyProof.Rows L2
end Vw
set_option maxRecDepth 100000
set_option maxHeartbeats 4000000
namespace Vw
open PySem PySem.Spec PyProof.Rows L2
theorem enum_newT (l : Addr) (its : Array Value) (n : Nat) (dd : Option Addr) (sl : Array (Option Value)) :
    Meets (Builtin.«enumerate.__new__» ⟨[.type "enumerate", .ref l], []⟩) (fun _ R s => s.heap.get? l = some ⟨.type "tuple", dd, .seq its n, sl⟩ ∧
      R (.ok (.ret (.ref (s.heap.push { cls := .type "tuple_iterator", data := .fields #[.ref l, .int 0 0] }).objs.size)))
        { s with heap := (s.heap.push { cls := .type "tuple_iterator", data := .fields #[.ref l, .int 0 0] }).push { cls := .type "enumerate", data := .fields #[.none, .bool false, .ref s.heap.objs.size, rawInt 0, .none, .none] } }) :=
  .of_wp fun pr w A R s ⟨hl, h⟩ => by
    obtain ⟨hp, g, d, tk, os⟩ := s
    have hsub := sub_enumerate
    have hT : Heap.IsTuple hp l its := ⟨_, hl, rfl, n, rfl⟩
    (wp_walk using wpAny_loadPart' hl)
    refine wpAny_stack_any fun st => wpAny_pure ?_
    split
    · rename_i c _ _ _ _ _
      cases (c == Value.type "enumerate") <;> ((wp_walk using wpAny_loadPart' hl, wpAny_pyIter_tuple hT); exact ⟨_, rfl, h⟩)
    · (wp_walk using wpAny_loadPart' hl, wpAny_pyIter_tuple hT); exact ⟨_, rfl, h⟩
end Vw
set_option maxRecDepth 100000
set_option maxHeartbeats 4000000
namespace Vw
open PySem PySem.Spec PyProof.Rows L2
theorem call_enumT {P : Program} {w : World} {A : Around} {E : Value → Shared → Prop} {s : Shared} {l : Addr} {its : Array Value} {Q : Value → Shared → Prop} (hL : s.heap.IsTuple l its)
    (h : ∀ h', IsEnum h' (s.heap.objs.size + 1) s.heap.objs.size 0 .none → h'.IsTupleIter s.heap.objs.size l 0 → h'.objs.size = s.heap.objs.size + 2 → (∀ b o, s.heap.get? b = some o → h'.get? b = some o) → Q (.ref (s.heap.objs.size + 1)) { s with heap := h' }) :
    wpAny (model P w) A (call (.type "enumerate") [.ref l]) Q E s := by
  obtain ⟨⟨oc, dd, dt, sl⟩, hl, hc, n, hd⟩ := hL
  cases (show oc = _ from hc)
  cases (show dt = _ from hd)
  refine callType_new F.called_enumerate (by decide) (F.typeCall_enumerate_1 _) (F.newCall_enumerate_1 _) (fun obj => F.args_object_init_2 obj _) F.entry_enumerate_new (enum_newT l its n dd sl) ⟨hl, ?_⟩
  have hz : (s.heap.push { cls := .type "tuple_iterator", data := .fields #[.ref l, .int 0 0] }).objs.size = s.heap.objs.size + 1 := Heap.size_push ..
  rw [hz]
  have he : IsEnum ((s.heap.push { cls := .type "tuple_iterator", data := .fields #[.ref l, .int 0 0] }).push { cls := .type "enumerate", data := .fields #[.none, .bool false, .ref s.heap.objs.size, rawInt 0, .none, .none] }) (s.heap.objs.size + 1) s.heap.objs.size 0 .none := by
    have e := Heap.get?_push_size (s.heap.push { cls := .type "tuple_iterator", data := .fields #[.ref l, .int 0 0] }) (o := { cls := .type "enumerate", data := .fields #[.none, .bool false, .ref s.heap.objs.size, rawInt 0, .none, .none] }) rfl
    rw [hz] at e; exact e
  exact ⟨⟨_, he, rfl⟩, h _ he ⟨_, Heap.get?_push_of_some _ (Heap.get?_push_size _ rfl), rfl, rfl⟩ (by rw [Heap.size_push, hz]) fun b o x => Heap.get?_push_of_some _ (Heap.get?_push_of_some _ x)⟩
/-- the tuple at a, each item in a new pair -/
def ItEnT (K : PySem.W.Frag) (a : Addr) : It :=
  ⟨fun i H => ∃ (xs : List V) (x : V), SqT K H a xs ∧ xs[i]? = some x, fun i H v H' => ∃ T x ob, v = .ref T ∧ H T = none ∧ ob.dict = none ∧ H' = upd H T (.frz ob (.tup [.int (i : Nat), x])) ∧ ∀ xs, SqT K H a xs → xs[i]? = some x, fun i H => ∃ xs : List V, SqT K H a xs ∧ xs.length = i⟩
theorem apart {h : Heap} {a e it : Addr} {i j : Nat} {old : Value} {its : Array Value} (p : h.IsTuple a its) (he : IsEnum h e it ((i : Nat) : Int) old) (hit : h.IsTupleIter it a j) : a ≠ it ∧ a ≠ e := by
  obtain ⟨o, ho, hc, _⟩ := p
  constructor
  · intro z
    obtain ⟨o', ho', hc', _⟩ := hit
    rw [← z, ho] at ho'
    cases ho'
    rw [hc] at hc'
    exact absurd hc' (by decide)
  · intro z
    rw [z, show h.get? e = _ from he] at ho
    cases ho
    exact absurd (show Value.type "enumerate" = Value.type "tuple" from hc) (by decide)
theorem turn_enT {P : Program} {w : World} {K : PySem.W.Frag} {elts : List Expr} {kk : Nat} {tpos : Pos} (a e it : Addr) :
    Turn P w K (.Tuple elts kk tpos) (ItEnT K a) [e, it] e (fun i h => (∃ old, IsEnum h e it ((i : Nat) : Int) old) ∧ h.IsTupleIter it a i ∧ e ≠ it) where
  mem := by simp
  obj := fun i h st b hb => by
    obtain ⟨⟨old, he⟩, ⟨o, ho, hc, hd⟩, _⟩ := st
    rcases (show b = e ∨ b = it by simpa using hb) with rfl | rfl
    · exact ⟨_, he, fun v q => nomatch q⟩
    · exact ⟨o, ho, fun v q => by rw [hd] at q; cases q⟩
  keep := fun i h h' st k => let ⟨⟨old, he⟩, ⟨o, ho, r⟩, hne⟩ := st; ⟨⟨old, k e (by simp) _ he⟩, ⟨o, k it (by simp) o ho, r⟩, hne⟩
  item := by
    intro X hP hw hK hc i pins s σ H E I hf st hg
    subst hP hw hK
    obtain ⟨⟨old, he⟩, hit, hne⟩ := st
    obtain ⟨xs, x, hq, hx⟩ := hg
    obtain ⟨its, rv, p, hz⟩ := I.tuple hq
    obtain ⟨u, hu, ru⟩ := rv.get hx
    have hel : e < s.heap.objs.size := Heap.lt_size he
    have hil : it < s.heap.objs.size := by obtain ⟨_, q, _⟩ := hit; exact Heap.lt_size q
    have p' : Heap.IsTuple s.heap a its.toArray := by obtain ⟨o, ho, oc, n, od⟩ := p; exact ⟨o, ho, oc, n, od⟩
    obtain ⟨hai, hae⟩ := apart p' he hit
    have hlt : i < its.toArray.size := by rw [List.size_toArray]; exact (List.getElem?_eq_some_iff.mp hu).1
    refine wpAny_pyNext_enum_itemD (Draws.tuple (A := X.A.in1) (I.ok.hd hc) it a hai its.toArray) he ⟨hit, p'⟩ hlt hne (by simp [hne, Ne.symm hae]) fun x' h' tk hPx ho hst hT hsz hk => ?_
    cases (show x' = u by have e1 : its.toArray[i]? = some u := by simpa using hu
                          rw [hPx] at e1; exact Option.some.inj e1)
    refine ⟨_, rfl, wpAny_letOwnedTupleGo_enum (s := { s with heap := h', toks := tk + 1 }) ho fun h'' he' sb => ?_⟩
    have hT2 : h''.get? s.heap.objs.size = some { cls := .type "tuple", data := .seq #[.int i tk, u] } := (sb.2 _ (Nat.ne_of_gt hel)).trans hT
    have nw : ObjOk X.prog X.w (upd H s.heap.objs.size (.frz { cls := .type "tuple", data := .seq #[.int i tk, u] } (.tup [.int (i : Nat), x]))) h'' s.heap.objs.size (.frz { cls := .type "tuple", data := .seq #[.int i tk, u] } (.tup [.int (i : Nat), x])) := ⟨hT2, by show 2 ≤ sizeLine; decide, [.int i tk, u], .cons ⟨_, rfl⟩ (.cons ru .nil), ⟨_, hT2, rfl, _, rfl⟩⟩
    have J : Inv X pins σ (upd H s.heap.objs.size (.frz { cls := .type "tuple", data := .seq #[.int i tk, u] } (.tup [.int (i : Nat), x]))) { s with heap := h'', toks := tk + 1 } :=
      I.turnedNew (ch := [e, it]) (fun b ob hb q => (sb.2 b fun z => hb (by simp [z])).trans (hk b ob (fun z => hb (by simp [z])) (fun z => hb (by simp [z])) q)) hf (Nat.le_refl _) nw
    refine ⟨.ref s.heap.objs.size, _, J, rfl, ⟨_, x, _, rfl, I.hok.fresh (Nat.le_refl _), rfl, rfl, fun ys hy => ?_⟩, ⟨⟨u, ?_⟩, hst.1.at fun o q => (sb.2 it (Ne.symm hne)).trans q, hne⟩, fun b hb => ?_⟩
    · rw [I.tuple_inj hy hq]; exact hx
    · rw [show ((i + 1 : Nat) : Int) = (i : Int) + 1 by omega]; exact he'
    · have hb' : b < s.heap.objs.size := by
        rcases (show b = e ∨ b = it by simpa using hb) with z | z <;> rw [z]
        · exact hel
        · exact hil
      rw [upd_ne (Nat.ne_of_lt hb')]; exact (hf b hb).1
  done := by
    intro X hP hw hK hc i pins s σ H E I hf st hg
    subst hP hw hK
    obtain ⟨⟨old, he⟩, hit, hne⟩ := st
    obtain ⟨xs, hq, hx⟩ := hg
    obtain ⟨its, rv, p, hz⟩ := I.tuple hq
    obtain ⟨f0, f1, f2, f3, f4, f5⟩ := hf it (by simp)
    have p' : Heap.IsTuple s.heap a its.toArray := by obtain ⟨o, ho, oc, n, od⟩ := p; exact ⟨o, ho, oc, n, od⟩
    obtain ⟨hai, hae⟩ := apart p' he hit
    have hn : i = its.toArray.size := by rw [List.size_toArray, ← rv.length, hx]
    subst hn
    exact wpAny_pyNext_enum_endD (Draws.tuple (A := X.A.in1) (I.ok.hd hc) it a hai its.toArray) he ⟨hit, p'⟩ fun h' eb => ⟨rfl, I.turned (t' := s.toks) (fun b o hb q => eb b o hb q) f0 f1 f3 f4 f5⟩
  self := fun A i s Q E st h => let ⟨⟨_, he⟩, _⟩ := st; wpAny_pyIter_enum he h
end Vw
set_option maxRecDepth 100000
set_option maxHeartbeats 4000000
namespace Vw
open PySem PySem.Spec PyProof.Rows L2
def enS (ds : List D) : Src := fun i _ => if i ≤ ds.length then some ((ds[i]?).map fun d => .tup [.int i, d]) else none
theorem srcE_ok {K : PySem.W.Frag × List Addr} {T : List Addr} {H : Hp} {m : List Addr} {S : Sto} {v : V} {ds : List D} (ok : Ok K T H m S) (r : Rep K H m v (.tup ds)) :
    ∃ a, v = .ref a ∧ (∃ xs, SqT K.1 H a xs) ∧ ItOk K T H m (ItEnT K.1 a) (enS ds) := by
  cases r with
  | tup h rs =>
    refine ⟨_, rfl, ⟨_, h⟩, fun E i H' m' S' hE x' o' => ?_⟩
    have t := itemsAt i (Reps.later hE x' ok rs)
    unfold enS
    by_cases hi : i ≤ ds.length
    · rw [if_pos hi]
      revert t
      cases ds[i]? with
      | none => intro t; exact ⟨_, x'.rdT ok h, by have := rs.len; omega⟩
      | some d =>
        rintro ⟨x, t1, t2⟩
        refine ⟨⟨_, x, x'.rdT ok h, t1⟩, fun y H2 hy => ?_⟩
        obtain ⟨T', x2, ob, rfl, hT, hb, rfl, hy⟩ := hy
        have e := hy _ (x'.rdT ok h)
        rw [t1] at e
        cases e
        have x3 := Ext.laid (o := .frz ob (.tup [.int (i : Nat), x])) o' hT
        exact ⟨m', x3, o'.laid hT hb, .tup (.inl (.inr ⟨ob, upd_same⟩)) (Reps.mono x3 o' (.cons (.int _) (.cons t2 .nil)))⟩
    · rw [if_neg hi]; trivial
def iEnT (K : PySem.W.Frag) (ta : TA) : TI := fun σ H R => ta σ H fun vs H1 => ∃ a, vs = [.ref a] ∧ (∃ xs, SqT K H1 a xs) ∧ R (ItEnT K a) H1
theorem pi_enT {X : Cx} {e : Expr} {ta : TA} {p pos tpos : Pos} {elts : List Expr} {kk : Nat} (hg : Gl X "enumerate") (hm : X.mg "enumerate" = none) (ha : PA X [e] ta) (hs : starEach [e] X.env = [(false, eval e X.env)]) :
    PI X (.Tuple elts kk tpos) (.Call (.Name "enumerate" p) [e] [] pos) (iEnT X.K ta) := by
  refine ⟨fun pins s σ H R I h => ?_⟩
  refine Call_ (ld_blt I hg hm boot_enumerate (PyProof.Rows.callWith_type1 (thn (ha.run pos pins s σ H _ I h) fun us s1 ⟨vs, H1, I1, r1, a, ex, ⟨xs, hq⟩, q⟩ => ?_) hs rfl))
  subst ex
  cases r1 with
  | cons r rr =>
    cases rr
    cases r
    obtain ⟨its, rv, ⟨o, ho, oc, n, od⟩, hz⟩ := I1.tuple hq
    refine call_enumT ⟨o, ho, oc, n, od⟩ fun h' he hit hsz hk => wpAny_pyIter_enum he ?_
    have I2 : Inv X pins σ H1 { s1 with heap := h' } := I1.kept (t' := s1.toks) hk
    refine ⟨s1.heap.objs.size + 1, [s1.heap.objs.size + 1, s1.heap.objs.size], _, _, H1, rfl, I2, turn_enT a (s1.heap.objs.size + 1) s1.heap.objs.size, ⟨⟨.none, he⟩, hit, Nat.succ_ne_self _⟩, fun b hb => ?_, q⟩
    have hle : s1.heap.objs.size ≤ b := by
      rcases (show b = s1.heap.objs.size + 1 ∨ b = s1.heap.objs.size by simpa using hb) with z | z
      · rw [z]; exact Nat.le_succ _
      · rw [z]; exact Nat.le_refl _
    exact I1.fpOk hle (I1.hok.fresh hle)
def dEnum (f : DE) : DI := fun G S => (f G S).bind fun p => match p.1 with
  | .tup ds => some (enS ds, ds.length + 1, p.2)
  | _ => none
section
variable {X : Cx} {T : List Addr} {e : Expr} {p pos tpos : Pos} {elts : List Expr} {kk : Nat} {f : DE}
theorem iEnum' (m : X.mg "enumerate" = none) (g : Gl X "enumerate") (h : PE X e (tD X.K T f)) (hs : starEach [e] X.env = [(false, eval e X.env)]) (he : Es1 X e []) : PI X (.Tuple elts kk tpos) (.Call (.Name "enumerate" p) [e] [] pos) (iD X.K T (dEnum f)) := by
  refine piImp (pi_enT g m (pa_cons h pa_nil he) hs) fun σ H R ⟨Z, G, S, m, src, n, S', ok, en, f, q⟩ => ?_
  unfold dEnum at f
  obtain ⟨⟨d, S1⟩, e1, f⟩ := Option.bind_eq_some_iff.mp f
  refine tD.go ok en e1 fun v H1 m1 x1 o1 en1 r1 => ?_
  cases d with
  | tup ds =>
    cases f
    obtain ⟨a, rfl, hq, it⟩ := srcE_ok o1 r1
    exact ⟨a, rfl, hq, q _ H1 m1 x1 o1 it⟩
  | _ => cases f
end
end Vw
set_option maxRecDepth 100000
set_option maxHeartbeats 4000000
namespace Vw
open PySem PySem.Spec L2
end Vw
set_option maxRecDepth 100000
set_option maxHeartbeats 4000000
namespace Vw
open PySem PySem.Spec PyProof.Rows L2
section
variable {prog : Program} {w : World} {A : Around} {s : Shared} {E : Value → Shared → Prop}
theorem collect_tupV {l : Addr} {vs : List Value} {Q : List Value → Shared → Prop} (hl : s.heap.IsTuple l vs.toArray) (hsz : vs.length ≤ sizeLine)
    (h : Q vs { s with heap := ((s.heap.push (seqObj "list" #[] 0)).update (s.heap.objs.size) (Obj.mapSeq (· ++ vs.toArray))) }) :
    wpAny (model prog w) A (collect (.ref l)) Q E s := by
  obtain ⟨o, ho, hc, n, hd⟩ := id hl
  unfold collect
  refine (wpAny_bind (wpAny_runValue ((codeAny_builtin entry_proto_collect' ?_))))
  show wpAny _ _ (do again (.builtin "list.__iadd__" ⟨[← newList [], .ref l], []⟩)) _ _ s
  refine (wpAny_bind (wpAny_newList ((wpAny_pure ⟨(Code.quiet_builtin _ (by decide +kernel)), (codeAny_builtin entry_list_iadd' ?_)⟩))))
  show (wpAny _ _ ((Builtin.List.listExtendWith (.ref s.heap.objs.size) (.ref l) (.ref s.heap.objs.size))) _ _ { s with heap := s.heap.push (seqObj "list" #[] 0) })
  unfold Builtin.List.listExtendWith
  have ho' : ((s.heap.push (seqObj "list" #[] 0)).get? l) = some o := (Heap.get?_push_of_some _ ho)
  refine (wpAny_bind (wpAny_typeOf (T := "tuple") (⟨o, ho', hc⟩) ?_))
  have ht : (Value.type "tuple" == Value.type "tuple") = true := by rfl
  rw [if_pos (by rw [ht]; simp)]
  refine (wpAny_bind (listItems_at ho' hd (?_)))
  refine (wpAny_bind (listItems_at (xs := #[]) (n := 0) (Heap.get?_push_size _ rfl) rfl (?_)))
  rw [if_neg (by simp)]
  refine (wpAny_bind ((listUpdate_at (xs := #[]) (n := 0) (Heap.get?_push_size _ rfl) rfl ?_ (Nat.zero_le _) (by show ((#[] ++ vs.toArray).size ≤ sizeLine + 1); simp only [Array.size_append, List.size_toArray, List.length_nil]; omega))))
  refine (wpAny_pure (?_))
  show (wpAny (model prog w) A (do
      let o ← (load s.heap.objs.size)
      match o.data with
      | .seq xs _ => (pure xs.toList)
      | _ => (unsupported "internal:collect")) Q E { s with heap := ((s.heap.push (seqObj "list" #[] 0)).update (s.heap.objs.size) (Obj.mapSeq (· ++ vs.toArray))) })
  refine (wpAny_bind (wpAny_load (get?_update_seq ((Heap.get?_push_size _ rfl)) _) ?_))
  show (wpAny _ _ (pure (((#[] : Array Value) ++ vs.toArray).toList)) Q E _)
  rw [show (((#[] : Array Value) ++ vs.toArray).toList = vs) by simp]
  exact wpAny_pure h
theorem sorted_tupV {l : Addr} {vs : List Value} {ns : List Int} {Q : Value → Shared → Prop} (hl : s.heap.IsTuple l vs.toArray) (hI : IntsAre vs ns) (h64 : vs.length < 64)
    (h : ∀ (out : Array Value) (ns' : List Int), IntsAre out.toList ns' → ns'.Perm ns → ns'.Pairwise (· ≤ ·) → Q (.ref (s.heap.objs.size + 1)) ({ s with heap := sortedAll s.heap vs out })) :
    wpAny (model prog w) A (call (.builtin "sorted") [.ref l]) Q E s := by
  refine (Calls.call_function_entry kind_sorted plain_sorted (entry_sorted) (args_sorted1 _) (?_))
  unfold Builtin.«sorted»
  refine (wpAny_bind (m := (checkCount "sorted" 1 1 _)) (wpAny_pure (?_)))
  refine (wpAny_bind (collect_tupV hl (by rw [sizeLine_eq]; omega) ?_))
  refine (wpAny_bind (wpAny_newList (?_)))
  have hsz : (((s.heap.push (seqObj "list" #[] 0)).update (s.heap.objs.size) (Obj.mapSeq (· ++ vs.toArray))).objs.size) = s.heap.objs.size + 1 := by
    rw [Heap.size_update, size_push']
  have hoL : ((((s.heap.push (seqObj "list" #[] 0)).update (s.heap.objs.size) (Obj.mapSeq (· ++ vs.toArray))).push (seqObj "list" vs.toArray 0)).get? (s.heap.objs.size + 1)) = some (seqObj "list" vs.toArray 0) := by
    rw [← hsz]; exact (Heap.get?_push_size _ rfl)
  show (wpAny _ _ _ _ _ { s with heap := (((s.heap.push (seqObj "list" #[] 0)).update (s.heap.objs.size) (Obj.mapSeq (· ++ vs.toArray))).push (seqObj "list" vs.toArray 0)) })
  rw [hsz]
  refine (wpAny_bind (wpAny_holding ((wpAny_call_entry slot_list_sort ⟨_, hoL, rfl⟩ entry_list_sort (list_sort_tree hoL hI h64 (fun out ns' a1 a2 a3 => ⟨_, rfl, ?_⟩)) (args_list_sort _)))))
  exact (wpAny_pure ⟨_, rfl, (h out ns' a1 a2 a3)⟩)
end
def rSortedT (K : PySem.W.Frag) : List V → Hp → VK → Prop := fun vs H Q => ∃ (a : Addr) (ns : List Int), vs = [V.ref a] ∧ SqT K H a (ns.map V.int) ∧ ns.length < 64 ∧
  (∀ (ns' : List Int) (p : Addr), ns'.Perm ns → ns'.Pairwise (· ≤ ·) → H p = none → Q (.ref p) (upd H p (.lst (ns'.map V.int))))
theorem cr_sortedT {X : Cx} : CallR X (.builtin "sorted") (rSortedT X.K) := by
  intro pins s σ H vs us Q I r h
  obtain ⟨a, ns, rfl, hs, h64, q⟩ := h
  obtain ⟨its, rv, hl, _⟩ := I.tuple hs
  rw [Vals.ref1 r]
  have hi := rv.ints
  refine sorted_tupV (hl) hi (by rw [hi.length]; exact h64) (fun out ns' h1 h2 h3 => ?_)
  obtain ⟨ep, he'⟩ := (PyProof.Rows.sortedAll_at s.heap its out)
  have hlen : (ns'.map V.int).length ≤ sizeLine := by rw [List.length_map, h2.length_eq]; exact (small64 h64)
  exact ⟨.ref _, (upd H (s.heap.objs.size + 1) (.lst (ns'.map V.int))), (I.laid (t' := s.toks) (fun _ _ => PyProof.Rows.sortedAll_old) (Nat.le_succ _) ⟨hlen, out.toList, ep, vals_of_ints h1, he'⟩), rfl, (q ns' _ h2 h3 (I.hok.fresh (Nat.le_succ _)))⟩
def rSortedA (K : PySem.W.Frag) : List V → Hp → VK → Prop := fun vs H Q => rSorted K vs H Q ∨ rSortedT K vs H Q
theorem cr_sortedA {X : Cx} : CallR X (.builtin "sorted") (rSortedA X.K) := by
  intro pins s σ H vs us Q I r h
  rcases h with h | h
  · exact cr_sorted pins s σ H vs us Q I r h
  · exact cr_sortedT pins s σ H vs us Q I r h
def opSortedA (c : Bool) : OpC := fun cs S => match cs with
  | [.tup ds] => (intsD ds).bind fun ns => if ns.length < 64 then okLst c ((sortI ns).map D.int) S else none
  | cs => opSorted c cs S
theorem rule_sortedA {K : PySem.W.Frag} {T : List Addr} {c : Bool} : RuleC K T (rSortedA K) (opSortedA c) := by
  intro Z H m S xs cs z S' Q ok r f q
  unfold opSortedA at f
  split at f
  · obtain ⟨x, rfl, rx⟩ := one_inv r
    obtain ⟨bs, e2, f⟩ := Option.bind_eq_some_iff.mp f
    split at f
    · rename_i hl
      cases rx with
      | tup hq rs =>
        have e3 := ints_ok rs e2
        subst e3
        refine .inr ⟨_, bs, rfl, hq, hl, fun ns' l h1 h2 hf => ?_⟩
        rw [sortI_only h1 h2]
        exact newLst (Q := Q) ok hf (reps_intV _) f q
    · cases f
  · exact .inl (rule_sorted Z H m S xs _ z S' Q ok r f q)
section
variable {X : Cx} {T : List Addr} {e : Expr} {es : List Expr} {p pos : Pos} {fs : DA}
theorem eSortedA (l : Bool) (m : X.mg "sorted" = none) (g : Gl X "sorted") (ha : PA X (e :: es) (tA X.K T fs)) (he : Es1 X e es := by rfl) (hpl : Pl1 X pos es := by rfl) : PE X (.Call (.Name "sorted" p) (e :: es) [] pos) (tD X.K T (dCall (opSortedA l) fs)) := rCall (pe_callB cr_sortedA g m (by decide +kernel) ha (by decide) (by decide) he hpl) rule_sortedA
end
end Vw
set_option maxRecDepth 100000
set_option maxHeartbeats 4000000
namespace Vw
open PySem PySem.Spec PyProof.Rows L2 RZ
open PySem.Sem (wp)
def zipS (s1 s2 : Src) : Src := fun i S => (s1 i S).bind fun o1 => (s2 i S).map fun o2 => match o1, o2 with
  | some d1, some d2 => some (.tup [d1, d2])
  | _, _ => none
/-- never reached -/
def dNever : DS := fun _ _ => none
theorem rNever {X : Cx} {T : List Addr} {st : Stmt} : PS X st (sD X.K T dNever) := psImp ps_never fun D σ H ⟨Z, G, S, m, fl, G', S', ok, en, f, q⟩ => by cases f
end Vw
set_option maxRecDepth 100000
set_option maxHeartbeats 4000000
namespace Vw
open PySem PySem.Spec PyProof.Rows L2
theorem isEmpty_reps {K : PySem.W.Frag × List Addr} {H : Hp} {m : List Addr} {xs : List V} {ds : List D} (r : Reps K H m xs ds) : xs.isEmpty = ds.isEmpty := by
  cases r <;> rfl
end Vw
set_option maxRecDepth 100000
set_option maxHeartbeats 4000000
namespace Vw
open PySem PySem.Spec PyProof.Rows L2
/-- an exception as data: the name of its class, its fields -/
structure Exc where
  cls : Str
  fs : List (Str × D)
abbrev DX := Gam → Sto → Option (Exc × Sto)
abbrev SXF := Gam → Sto → Option (Exc × Gam × Sto)
abbrev DXF := List D → Sto → Option (Exc × Sto)
/-- an exception of the class at C, with its dict at dx -/
def XRep (K : PySem.W.Frag × List Addr) (mg : Str → Option Value) (H : Hp) (m : List Addr) (cls : Value) (dx : Option Addr) (e : Exc) : Prop :=
  ∃ C : Addr, cls = .ref C ∧ mg e.cls = some (.ref C) ∧ ((e.fs = [] ∧ dx = none) ∨
    ∃ (dd : Addr) (kvs : List (Str × V)), dx = some dd ∧ H dd = some (.xd kvs) ∧ kvs.map (·.1) = e.fs.map (·.1) ∧ Reps K H m (kvs.map (·.2)) (e.fs.map (·.2)))
theorem XRep.mono {K K0 : PySem.W.Frag × List Addr} {mg : Str → Option Value} {T : List Addr} {H H1 : Hp} {m m1 : List Addr} {S : Sto} {cls : Value} {dx : Option Addr} {e : Exc} (r : XRep K mg H m cls dx e) (x : Ext T H m H1 m1) (ok : Ok K0 T H m S) : XRep K mg H1 m1 cls dx e := by
  obtain ⟨C, e1, e2, h | ⟨dd, kvs, e3, hd, e4, rs⟩⟩ := r
  · exact ⟨C, e1, e2, .inl h⟩
  · refine ⟨C, e1, e2, .inr ⟨dd, kvs, e3, x.old dd _ hd (fun z => ?_) (fun z => ?_), e4, rs.mono x ok⟩⟩
    · rcases ok.cell z with ⟨ys, q⟩ | ⟨ys, q⟩ <;> · rw [hd] at q; cases q
    · obtain ⟨ps, q, _⟩ := ok.tab dd z
      rw [hd] at q; cases q
def tX (K : PySem.W.Frag) (T : List Addr) (mg : Str → Option Value) (W : WX) (f : DX) : TE := fun σ H _ => ∃ (Z : List Addr) (G : Gam) (S : Sto) (m : List Addr) (e : Exc) (S' : Sto), Ok (K, Z) T H m S ∧ EnvOk (K, Z) H m σ G ∧ f G S = some (e, S') ∧
  ∀ cls dx H' m', Ext T H m H' m' → Ok (K, Z) T H' m' S' → XRep (K, Z) mg H' m' cls dx e → W cls dx σ H'
def aX (K : PySem.W.Frag) (T : List Addr) (mg : Str → Option Value) (W : WX) (f : DX) : TA := fun σ H _ => ∃ (Z : List Addr) (G : Gam) (S : Sto) (m : List Addr) (e : Exc) (S' : Sto), Ok (K, Z) T H m S ∧ EnvOk (K, Z) H m σ G ∧ f G S = some (e, S') ∧
  ∀ cls dx H' m', Ext T H m H' m' → Ok (K, Z) T H' m' S' → XRep (K, Z) mg H' m' cls dx e → W cls dx σ H'
def sX (K : PySem.W.Frag) (T : List Addr) (mg : Str → Option Value) (W : WX) (f : SXF) : TS := fun _ σ H => ∃ (Z : List Addr) (G : Gam) (S : Sto) (m : List Addr) (e : Exc) (G' : Gam) (S' : Sto), Ok (K, Z) T H m S ∧ EnvOk (K, Z) H m σ G ∧ f G S = some (e, G', S') ∧
  ∀ σ' cls dx H' m', Ext T H m H' m' → Ok (K, Z) T H' m' S' → EnvOk (K, Z) H' m' σ' G' → XRep (K, Z) mg H' m' cls dx e → W cls dx σ' H'
section
variable {K : PySem.W.Frag} {Z : List Addr} {T : List Addr} {mg : Str → Option Value} {H : Hp} {m : List Addr} {S S1 : Sto} {σ : L2.St} {G G1 : Gam} {W : WX}
theorem tX.go {f : DX} {e : Exc} {Q : VK} (ok : Ok (K, Z) T H m S) (en : EnvOk (K, Z) H m σ G) (h : f G S = some (e, S1)) (q : ∀ cls dx H' m', Ext T H m H' m' → Ok (K, Z) T H' m' S1 → XRep (K, Z) mg H' m' cls dx e → W cls dx σ H') : tX K T mg W f σ H Q := ⟨Z, G, S, m, e, S1, ok, en, h, q⟩
theorem aX.go {f : DX} {e : Exc} {Q : List V → Hp → Prop} (ok : Ok (K, Z) T H m S) (en : EnvOk (K, Z) H m σ G) (h : f G S = some (e, S1)) (q : ∀ cls dx H' m', Ext T H m H' m' → Ok (K, Z) T H' m' S1 → XRep (K, Z) mg H' m' cls dx e → W cls dx σ H') : aX K T mg W f σ H Q := ⟨Z, G, S, m, e, S1, ok, en, h, q⟩
theorem sX.go {f : SXF} {e : Exc} {Dn : Ends} (ok : Ok (K, Z) T H m S) (en : EnvOk (K, Z) H m σ G) (h : f G S = some (e, G1, S1)) (q : ∀ σ' cls dx H' m', Ext T H m H' m' → Ok (K, Z) T H' m' S1 → EnvOk (K, Z) H' m' σ' G1 → XRep (K, Z) mg H' m' cls dx e → W cls dx σ' H') : sX K T mg W f Dn σ H := ⟨Z, G, S, m, e, G1, S1, ok, en, h, q⟩
end
end Vw
set_option maxRecDepth 100000
set_option maxHeartbeats 4000000
namespace Vw
open PySem PySem.Spec PyProof.Rows L2
def spX (K : PySem.W.Frag) (T : List Addr) (mg : Str → Option Value) (n : Nat) (fn : DF) (xfn : DXF) : Sp := fun vs H Q E => ∃ (Z : List Addr) (S : Sto) (m : List Addr) (ds : List D), vs.length = n ∧ Ok (K, Z) T H m S ∧ Reps (K, Z) H m vs ds ∧
  ((∃ (d : D) (S' : Sto), fn ds S = some (d, S') ∧ ∀ v H' m', Ext T H m H' m' → Ok (K, Z) T H' m' S' → Rep (K, Z) H' m' v d → Q v H') ∨
    ∃ (e : Exc) (S' : Sto), xfn ds S = some (e, S') ∧ ∀ cls dx H' m', Ext T H m H' m' → Ok (K, Z) T H' m' S' → XRep (K, Z) mg H' m' cls dx e → E cls dx H')
theorem FnG.imp {P : Program} {w : World} {K : PySem.W.Frag} {mg : Str → Option Value} {base : Heap} {CX : CXT} {k : Nat} {f : Addr} {fd : FuncData} {ps : List Str} {sp sp' : Sp} (F : FnG P w K mg base CX k f fd ps sp) (h : ∀ vs H Q E, sp' vs H Q E → sp vs H Q E) : FnG P w K mg base CX k f fd ps sp' where
  len := fun vs H Q E q => F.len vs H Q E (h _ _ _ _ q)
  run := fun A outer s H args us vs Q E hr hc he hb hv hs => F.run A outer s H args us vs Q E hr hc he hb hv (h _ _ _ _ hs)
structure CalX (P : Program) (w : World) (K : PySem.W.Frag) (mg : Str → Option Value) (base : Heap) (T : List Addr) (k : Nat) (x : Str) (st : Stmt) (ps : List Str) (fn : DF) (xfn : DXF) : Prop where
  ex : ∃ (f : Addr) (fd : FuncData), FnG P w K mg base (L2.CX P w) k f fd ps (spX K T mg ps.length fn xfn) ∧ mg x = some (.ref f) ∧ Fun K x x st f fd ∧ Binds K fd ps []
theorem CalX.ok {P : Program} {w : World} {K : PySem.W.Frag} {mg : Str → Option Value} {base : Heap} {T : List Addr} {k : Nat} {x : Str} {st : Stmt} {ps : List Str} {fn : DF} {xfn : DXF} (C : CalX P w K mg base T k x st ps fn xfn) : Cal P w K mg base T k x st ps fn := by
  obtain ⟨f, fd, F, h⟩ := C.ex
  refine ⟨f, fd, F.imp fun vs H Q E q => ?_, h⟩
  obtain ⟨Z, S, m, ds, d, S', h1, h2, h3, h4, h5⟩ := q
  exact ⟨Z, S, m, ds, h1, h2, h3, .inl ⟨d, S', h4, h5⟩⟩
end Vw
set_option maxRecDepth 100000
set_option maxHeartbeats 4000000
namespace Vw
open PySem PySem.Spec PyProof.Rows L2
theorem EnvOk.any {K : PySem.W.Frag × List Addr} {H : Hp} {m : List Addr} {σ : L2.St} {G : Gam} (e : EnvOk K H m σ G) (i : Nat) (v : Option V) : EnvOk K H m (σ.set i v) (G.set i none) := by
  refine ⟨by simp [e.len], fun j d h => ?_⟩
  by_cases hi : i = j
  · subst hi
    by_cases hl : i < G.length
    · rw [List.getElem?_set_self hl] at h; cases h
    · rw [List.getElem?_eq_none (by simpa using hl)] at h; cases h
  · rw [List.getElem?_set_ne hi] at h
    obtain ⟨w, a, r⟩ := e.at_ j d h
    exact ⟨w, by rw [List.getElem?_set_ne hi]; exact a, r⟩
end Vw
set_option maxRecDepth 100000
set_option maxHeartbeats 4000000
namespace Vw
open PySem PySem.Spec PyProof.Rows L2
end Vw
set_option maxRecDepth 100000
set_option maxHeartbeats 4000000
namespace Vw
open PySem PySem.Spec PyProof.Rows L2 GenW
/-- a truth, None, or whether a row has anything in it -/
def dTruA (f : DE) : DT := fun G S => (f G S).bind fun p => match seqD p.2 p.1 with
  | some ds => some (!ds.isEmpty, p.2)
  | none => match p.1 with
    | .bl b => some (b, p.2)
    | .non => some (false, p.2)
    | _ => none
theorem tTruA {X : Cx} {T : List Addr} {a : Expr} {fa : DE} (ha : PE X a (tD X.K T fa)) (he : ∀ whole, isTrue a X.env whole = (do let v ← whole; standAt a.pos; holding [v] (truthy v))) : PT X a (tB X.K T (dTruA fa)) := by
  refine ptImp (pt_truth ha he) fun σ H Q ⟨Z, G, S, m, b, S', ok, en, f, q⟩ => ?_
  unfold dTruA at f
  obtain ⟨⟨x, S1⟩, e1, f⟩ := Option.bind_eq_some_iff.mp f
  refine tD.go ok en e1 fun v H1 m1 x1 o1 en1 r1 => ?_
  dsimp only at f
  split at f
  · rename_i ds es
    cases f
    obtain ⟨p, ys, rfl, hq, rs⟩ := seqD_ok o1 r1 es
    rcases hq with hq | hq
    · exact ⟨_, .inl ⟨_, hq, by rw [isEmpty_reps rs]⟩, q H1 m1 x1 o1⟩
    · exact ⟨_, .inr (.inl ⟨_, hq, by rw [isEmpty_reps rs]⟩), q H1 m1 x1 o1⟩
  · split at f
    · cases f; cases r1; exact ⟨_, rfl, q H1 m1 x1 o1⟩
    · cases f; cases r1; exact ⟨_, rfl, q H1 m1 x1 o1⟩
    · cases f
end Vw
set_option maxRecDepth 100000
set_option maxHeartbeats 4000000
namespace Vw
open PySem PySem.Spec PyProof.Rows L2 RZ
open PySem.Sem (wp)
section
variable {prog : Program} {w : World} {A : Around} {E : Value → Shared → Prop} {s : Shared}
theorem zipL_next_item {z pa pb ia ib la lb : Addr} {ka kb : Nat} {xs ys : Array Value} {x y a b : Value} {Q : Value → Shared → Prop} (D : ZipApart z pa pb ia ib la lb)
    (hZ : IsZip s.heap z pa pb .none) (hPa : IsPair s.heap pa (.ref ia) (.ref ib)) (hPb : IsPair s.heap pb a b)
    (h1 : s.heap.IsListIter ia la ka) (h2 : s.heap.IsListIter ib lb kb) (tl1 : s.heap.IsList la xs) (tl2 : s.heap.IsList lb ys) (hx : xs[ka]? = some x) (hy : ys[kb]? = some y)
    (goQ : ∀ h', IsZip h' z pa pb (rawInt s.heap.objs.size) → IsPair h' pb x y → h'.IsListIter ia la (ka + 1) → h'.IsListIter ib lb (kb + 1) → IsPair h' s.heap.objs.size x y → h'.objs.size = s.heap.objs.size + 1 →
      (∀ c o, c ≠ z → c ≠ pb → c ≠ ia → c ≠ ib → s.heap.get? c = some o → h'.get? c = some o) → Q (.ref s.heap.objs.size) { s with heap := h' }) :
    wpAny (model prog w) A (Builtin.«zip.__next__» ⟨[.ref z], []⟩) (fun fin s' => ∃ v, fin = .done (.ret v) ∧ Q v s') E s := by
  show wpAny _ _ (field (.ref z) 2 >>= _) _ _ _
  refine wpAny_bind (wpAny_field hZ rfl (x := .bool false) rfl ?_)
  show wpAny _ _ (field (.ref z) 3 >>= _) _ _ _
  refine wpAny_bind (wpAny_field hZ rfl (x := .ref pa) rfl ?_)
  refine wpAny_bind (wpAny_seqItems hPa rfl ?_)
  show wpAny _ _ (Builtin.SmallTypes.ownedTupleIsFree (.ref z) >>= _) _ _ _
  refine wpAny_bind ?_
  unfold Builtin.SmallTypes.ownedTupleIsFree
  refine wpAny_bind (wpAny_field hZ rfl (x := .none) rfl (wpAny_pure ?_))
  simp only [if_true]
  refine wpAny_bind (wpAny_rule ?_)
  refine wpAny_bind (wpAny_field hZ rfl (x := .ref pb) rfl ?_)
  refine wpAny_bind (wpAny_setField_rec hZ (by simp) fun hp₁ hZ₁ sb₁ => ?_)
  replace hZ₁ : IsZip hp₁ z pa pb .ellipsis := hZ₁
  refine wpAny_bind ?_
  simp only [List.zipIdx_cons, List.zipIdx_nil, List.forIn_cons, List.forIn_nil]

  refine wpAny_bind (wpAny_bind (wpAny_onRaise ?_))
  show wpAny _ _ (Builtin.SmallTypes.nextOf (.ref ia) >>= _) _ _ _
  refine wpAny_bind (wpAny_nextOf_list_item (h1.extBut sb₁.extBut D.i1z) (tl1.extBut sb₁.extBut D.l1z) hx fun hp₂ h1₂ sb₂ => wpAny_pure ?_)
  have hPb₂ : IsPair hp₂ pb a b := sb₂.extBut _ _ D.TOi1 (sb₁.extBut _ _ D.TOz hPb)
  refine wpAny_bind (wpAny_seqItems hPb₂ rfl ?_)
  refine wpAny_bind (wpAny_updateSeq_pair hPb₂ fun hp₃ hPb₃ sb₃ => ?_)
  replace hPb₃ : IsPair hp₃ pb x b := hPb₃
  refine wpAny_bind (wpAny_letGo (wpAny_pure ?_))

  refine wpAny_bind (wpAny_bind (wpAny_onRaise ?_))
  show wpAny _ _ (Builtin.SmallTypes.nextOf (.ref ib) >>= _) _ _ _
  refine wpAny_bind (wpAny_nextOf_list_item (((h2.extBut sb₁.extBut D.i2z).extBut sb₂.extBut D.i12.symm).extBut sb₃.extBut D.TOi2.symm)
    (((tl2.extBut sb₁.extBut D.l2z).extBut sb₂.extBut D.l2i1).extBut sb₃.extBut D.l2TO) hy fun hp₄ h2₄ sb₄ => wpAny_pure ?_)
  have hPb₄ : IsPair hp₄ pb x b := sb₄.extBut _ _ D.TOi2 hPb₃
  refine wpAny_bind (wpAny_seqItems hPb₄ rfl ?_)
  refine wpAny_bind (wpAny_updateSeq_pair hPb₄ fun hp₅ hPb₅ sb₅ => ?_)
  replace hPb₅ : IsPair hp₅ pb x y := hPb₅
  refine wpAny_bind (wpAny_letGo (wpAny_pure (wpAny_pure ?_)))

  refine wpAny_bind (wpAny_seqItems hPb₅ rfl ?_)
  refine wpAny_bind (wpAny_newTuple ?_)
  have sz5 : hp₅.objs.size = s.heap.objs.size := by rw [sb₅.1, sb₄.1, sb₃.1, sb₂.1, sb₁.1]
  have hZ₅ : IsZip hp₅ z pa pb .ellipsis := sb₅.extBut _ _ D.TOz.symm (sb₄.extBut _ _ D.i2z.symm (sb₃.extBut _ _ D.TOz.symm (sb₂.extBut _ _ D.i1z.symm hZ₁)))
  have hk₅ : ∀ c o, c ≠ z → c ≠ pb → c ≠ ia → c ≠ ib → s.heap.get? c = some o → hp₅.get? c = some o := fun c o c1 c2 c3 c4 e =>
    sb₅.extBut _ _ c2 (sb₄.extBut _ _ c4 (sb₃.extBut _ _ c2 (sb₂.extBut _ _ c3 (sb₁.extBut _ _ c1 e))))
  have h1₅ : hp₅.IsListIter ia la (ka + 1) := ((h1₂.extBut sb₃.extBut D.TOi1.symm).extBut sb₄.extBut D.i12).extBut sb₅.extBut D.TOi1.symm
  have h2₅ : hp₅.IsListIter ib lb (kb + 1) := h2₄.extBut sb₅.extBut D.TOi2.symm
  have hzlt : z < hp₅.objs.size := Heap.lt_size hZ₅
  have hTOlt : pb < hp₅.objs.size := Heap.lt_size hPb₅
  have hi1lt : ia < hp₅.objs.size := by obtain ⟨_, e, _⟩ := h1₅; exact Heap.lt_size e
  have hi2lt : ib < hp₅.objs.size := by obtain ⟨_, e, _⟩ := h2₅; exact Heap.lt_size e
  show wpAny _ _ (Builtin.SmallTypes.ownedTupleHandOut (.ref z) (.ref hp₅.objs.size) >>= _) _ _ _
  refine wpAny_bind ?_
  unfold Builtin.SmallTypes.ownedTupleHandOut
  have hZ₆ : IsZip (hp₅.push { cls := .type "tuple", data := .seq #[x, y] }) z pa pb .ellipsis := Heap.get?_push_of_some _ hZ₅
  refine wpAny_bind (wpAny_setField_rec hZ₆ (by simp) fun hp₇ hZ₇ sb₇ => ?_)
  replace hZ₇ : IsZip hp₇ z pa pb (rawInt hp₅.objs.size) := hZ₇
  refine wpAny_setField_rec hZ₇ (by simp) fun hp₈ hZ₈ sb₈ => ?_
  replace hZ₈ : IsZip hp₈ z pa pb (rawInt hp₅.objs.size) := hZ₈
  have up : ∀ c o, c ≠ z → hp₅.get? c = some o → hp₈.get? c = some o := fun c o c1 e => sb₈.extBut _ _ c1 (sb₇.extBut _ _ c1 (Heap.get?_push_of_some _ e))
  have hT₈ : IsPair hp₈ hp₅.objs.size x y := sb₈.extBut _ _ (Nat.ne_of_gt hzlt) (sb₇.extBut _ _ (Nat.ne_of_gt hzlt) (Heap.get?_push_size _ rfl))
  have hz8 : hp₈.objs.size = hp₅.objs.size + 1 := by rw [sb₈.1, sb₇.1, Heap.size_push]
  rw [sz5] at hZ₈ hT₈ hz8
  refine wpAny_pure ⟨_, rfl, ?_⟩
  show Q (.ref hp₅.objs.size) _
  rw [sz5]
  exact goQ hp₈ hZ₈ (up _ _ D.TOz hPb₅) (h1₅.at fun o e => up _ o D.i1z e) (h2₅.at fun o e => up _ o D.i2z e) hT₈ hz8 fun c o c1 c2 c3 c4 e => up c o c1 (hk₅ c o c1 c2 c3 c4 e)
theorem zipL_next_end {z pa pb ia ib la lb : Addr} {ka kb : Nat} {xs ys : Array Value} {a b : Value} {Q : Fin → Shared → Prop} (hh : A.handled = none) (D : ZipApart z pa pb ia ib la lb)
    (hZ : IsZip s.heap z pa pb .none) (hPa : IsPair s.heap pa (.ref ia) (.ref ib)) (hPb : IsPair s.heap pb a b)
    (h1 : s.heap.IsListIter ia la ka) (h2 : s.heap.IsListIter ib lb kb) (tl1 : s.heap.IsList la xs) (tl2 : s.heap.IsList lb ys) (atEnd : xs[ka]? = none ∨ ys[kb]? = none)
    (goE : ∀ h' e, (∀ c o, c ≠ z → c ≠ pb → c ≠ ia → c ≠ ib → s.heap.get? c = some o → h'.get? c = some o) → (∃ o, h'.get? e = some o ∧ o.cls = .type "StopIteration") → E (.ref e) { s with heap := h' }) :
    wpAny (model prog w) A (Builtin.«zip.__next__» ⟨[.ref z], []⟩) Q E s := by
  show wpAny _ _ (field (.ref z) 2 >>= _) _ _ _
  refine wpAny_bind (wpAny_field hZ rfl (x := .bool false) rfl ?_)
  show wpAny _ _ (field (.ref z) 3 >>= _) _ _ _
  refine wpAny_bind (wpAny_field hZ rfl (x := .ref pa) rfl ?_)
  refine wpAny_bind (wpAny_seqItems hPa rfl ?_)
  show wpAny _ _ (Builtin.SmallTypes.ownedTupleIsFree (.ref z) >>= _) _ _ _
  refine wpAny_bind ?_
  unfold Builtin.SmallTypes.ownedTupleIsFree
  refine wpAny_bind (wpAny_field hZ rfl (x := .none) rfl (wpAny_pure ?_))
  simp only [if_true]
  refine wpAny_bind (wpAny_rule ?_)
  refine wpAny_bind (wpAny_field hZ rfl (x := .ref pb) rfl ?_)
  refine wpAny_bind (wpAny_setField_rec hZ (by simp) fun hp₁ hZ₁ sb₁ => ?_)
  replace hZ₁ : IsZip hp₁ z pa pb .ellipsis := hZ₁
  refine wpAny_bind ?_
  simp only [List.zipIdx_cons, List.zipIdx_nil, List.forIn_cons, List.forIn_nil]
  refine wpAny_bind (wpAny_bind (wpAny_onRaise ?_))
  show wpAny _ _ (Builtin.SmallTypes.nextOf (.ref ia) >>= _) _ _ _
  cases hx : xs[ka]? with
  | none =>
    refine wpAny_bind (wpAny_nextOf_list_end hh (h1.extBut sb₁.extBut D.i1z) (tl1.extBut sb₁.extBut D.l1z) hx fun hp₂ e sb₂ he => ?_)
    obtain ⟨oe, hoe, hce⟩ := he
    have hZ₂ : IsZip hp₂ z pa pb .ellipsis := sb₂ _ _ D.i1z.symm hZ₁
    have hez : e ≠ z := fun x => by subst x; rw [hZ₂] at hoe; cases hoe; simp at hce
    refine wpAny_setField_rec hZ₂ (by simp) fun hp₃ _ sb₃ => goE hp₃ e (fun c o c1 _ c3 _ x => sb₃.extBut _ _ c1 (sb₂ _ _ c3 (sb₁.extBut _ _ c1 x))) ⟨oe, sb₃.extBut _ _ hez hoe, hce⟩
  | some x =>
    have hy : ys[kb]? = none := by rcases atEnd with h | h; rw [hx] at h; cases h; exact h
    refine wpAny_bind (wpAny_nextOf_list_item (h1.extBut sb₁.extBut D.i1z) (tl1.extBut sb₁.extBut D.l1z) hx fun hp₂ h1₂ sb₂ => wpAny_pure ?_)
    have hPb₂ : IsPair hp₂ pb a b := sb₂.extBut _ _ D.TOi1 (sb₁.extBut _ _ D.TOz hPb)
    refine wpAny_bind (wpAny_seqItems hPb₂ rfl ?_)
    refine wpAny_bind (wpAny_updateSeq_pair hPb₂ fun hp₃ hPb₃ sb₃ => ?_)
    refine wpAny_bind (wpAny_letGo (wpAny_pure ?_))
    refine wpAny_bind (wpAny_bind (wpAny_onRaise ?_))
    show wpAny _ _ (Builtin.SmallTypes.nextOf (.ref ib) >>= _) _ _ _
    refine wpAny_bind (wpAny_nextOf_list_end hh (((h2.extBut sb₁.extBut D.i2z).extBut sb₂.extBut D.i12.symm).extBut sb₃.extBut D.TOi2.symm)
      (((tl2.extBut sb₁.extBut D.l2z).extBut sb₂.extBut D.l2i1).extBut sb₃.extBut D.l2TO) hy fun hp₄ e sb₄ he => ?_)
    obtain ⟨oe, hoe, hce⟩ := he
    have hZ₄ : IsZip hp₄ z pa pb .ellipsis := sb₄ _ _ D.i2z.symm (sb₃.extBut _ _ D.TOz.symm (sb₂.extBut _ _ D.i1z.symm hZ₁))
    have hez : e ≠ z := fun x => by subst x; rw [hZ₄] at hoe; cases hoe; simp at hce
    refine wpAny_setField_rec hZ₄ (by simp) fun hp₅ _ sb₅ => goE hp₅ e (fun c o c1 c2 c3 c4 x => sb₅.extBut _ _ c1 (sb₄ _ _ c4 (sb₃.extBut _ _ c2 (sb₂.extBut _ _ c3 (sb₁.extBut _ _ c1 x))))) ⟨oe, sb₅.extBut _ _ hez hoe, hce⟩
theorem pyNext_zipL_item {z pa pb ia ib la lb : Addr} {ka kb : Nat} {xs ys : Array Value} {x y a b : Value} {Q : Option Value → Shared → Prop} (D : ZipApart z pa pb ia ib la lb)
    (hZ : IsZip s.heap z pa pb .none) (hPa : IsPair s.heap pa (.ref ia) (.ref ib)) (hPb : IsPair s.heap pb a b)
    (h1 : s.heap.IsListIter ia la ka) (h2 : s.heap.IsListIter ib lb kb) (tl1 : s.heap.IsList la xs) (tl2 : s.heap.IsList lb ys) (hx : xs[ka]? = some x) (hy : ys[kb]? = some y)
    (goQ : ∀ h', IsZip h' z pa pb (rawInt s.heap.objs.size) → IsPair h' pb x y → h'.IsListIter ia la (ka + 1) → h'.IsListIter ib lb (kb + 1) → IsPair h' s.heap.objs.size x y → h'.objs.size = s.heap.objs.size + 1 →
      (∀ c o, c ≠ z → c ≠ pb → c ≠ ia → c ≠ ib → s.heap.get? c = some o → h'.get? c = some o) → Q (some (.ref s.heap.objs.size)) { s with heap := h' }) :
    wpAny (model prog w) A (pyNext (.ref z)) Q E s := by
  have hT : s.TypeIs (.ref z) "zip" := ⟨_, hZ, rfl⟩
  unfold pyNext
  exact wpAny_bind (wpAny_attempt (wpAny_callSpecial?_slot (name := Str.ofString "__next__") hT F.slot_zip_next
    (wpAny_call_entry F.slot_zip_next hT F.entry_zip_next
      (zipL_next_item D hZ hPa hPb h1 h2 tl1 tl2 hx hy fun h' a1 a2 a3 a4 a5 a6 a7 => wpAny_pure (goQ h' a1 a2 a3 a4 a5 a6 a7)) (F.args_zip_next_1 _))))
theorem pyNext_zipL_end {z pa pb ia ib la lb : Addr} {ka kb : Nat} {xs ys : Array Value} {a b : Value} {Q : Option Value → Shared → Prop} (hh : A.handled = none) (D : ZipApart z pa pb ia ib la lb)
    (hZ : IsZip s.heap z pa pb .none) (hPa : IsPair s.heap pa (.ref ia) (.ref ib)) (hPb : IsPair s.heap pb a b)
    (h1 : s.heap.IsListIter ia la ka) (h2 : s.heap.IsListIter ib lb kb) (tl1 : s.heap.IsList la xs) (tl2 : s.heap.IsList lb ys) (atEnd : xs[ka]? = none ∨ ys[kb]? = none)
    (goQ : ∀ h', (∀ c o, c ≠ z → c ≠ pb → c ≠ ia → c ≠ ib → s.heap.get? c = some o → h'.get? c = some o) → Q none { s with heap := h' }) : wpAny (model prog w) A (pyNext (.ref z)) Q E s := by
  have hT : s.TypeIs (.ref z) "zip" := ⟨_, hZ, rfl⟩
  unfold pyNext
  refine wpAny_bind (wpAny_attempt (wpAny_callSpecial?_slot (name := Str.ofString "__next__") hT F.slot_zip_next
    (wpAny_call_entry F.slot_zip_next hT F.entry_zip_next (zipL_next_end hh D hZ hPa hPb h1 h2 tl1 tl2 atEnd fun h' e hk he => ?_) (F.args_zip_next_1 _))))
  obtain ⟨o, ho, hc⟩ := he
  refine wpAny_bind (wpAny_isInstance (T := "StopIteration") (b := true) ⟨o, ho, hc⟩ isSubtype_stop ?_)
  exact wpAny_pure (goQ _ hk)
end
abbrev zipLH1 (h : Heap) (la : Addr) : Heap := h.push { cls := .type "list_iterator", data := .fields #[.ref la, .int 0 0] }
abbrev zipLH2 (h : Heap) (la lb : Addr) : Heap := (zipLH1 h la).push { cls := .type "list_iterator", data := .fields #[.ref lb, .int 0 0] }
abbrev zipLH3 (h : Heap) (la lb : Addr) : Heap := (zipLH2 h la lb).push { cls := .type "tuple", data := .seq #[.ref h.objs.size, .ref (zipLH1 h la).objs.size] }
abbrev zipLH4 (h : Heap) (la lb : Addr) : Heap := (zipLH3 h la lb).push { cls := .type "tuple", data := .seq #[.none, .none] }
abbrev zipLH5 (h : Heap) (la lb : Addr) : Heap := (zipLH4 h la lb).push { cls := .type "zip", data := .fields #[.none, .bool false, .bool false, .ref (zipLH2 h la lb).objs.size, .ref (zipLH3 h la lb).objs.size] }
theorem meets_zipL_new (la lb : Addr) (xs ys : Array Value) :
    Meets (Builtin.«zip.__new__» ⟨[.type "zip", .ref la, .ref lb], []⟩) (fun _ R s => s.heap.IsList la xs ∧ s.heap.IsList lb ys ∧
      R (.ok (.ret (.ref (zipLH4 s.heap la lb).objs.size))) { s with heap := zipLH5 s.heap la lb }) :=
  .of_wp fun prog w A R s h => by
    obtain ⟨hp, g, d, tk, os⟩ := s; obtain ⟨tl1, tl2, h⟩ := h
    have hsub := sub_zip
    have hL1 : Heap.IsList (Shared.heap ⟨hp, g, d, tk, os⟩) la xs := tl1
    have hL2 : Heap.IsList (Shared.heap ⟨hp.push { cls := .type "list_iterator", data := .fields #[.ref la, .int 0 0] }, g, d, tk, os⟩) lb ys := Heap.IsList.push tl2 _
    wp_walk using wpAny_pyIter_list hL1, wpAny_pyIter_list hL2
    exact ⟨_, rfl, h⟩
section
variable {prog : Program} {w : World} {A : Around} {E : Value → Shared → Prop} {s : Shared}
theorem call_zipL {la lb : Addr} {xs ys : Array Value} {Q : Value → Shared → Prop} (tl1 : s.heap.IsList la xs) (tl2 : s.heap.IsList lb ys)
    (h : ∀ h', IsZip h' (s.heap.objs.size + 4) (s.heap.objs.size + 2) (s.heap.objs.size + 3) .none → IsPair h' (s.heap.objs.size + 2) (.ref s.heap.objs.size) (.ref (s.heap.objs.size + 1)) →
      IsPair h' (s.heap.objs.size + 3) .none .none → h'.IsListIter s.heap.objs.size la 0 → h'.IsListIter (s.heap.objs.size + 1) lb 0 → h'.objs.size = s.heap.objs.size + 5 →
      (∀ c o, s.heap.get? c = some o → h'.get? c = some o) → Q (.ref (s.heap.objs.size + 4)) { s with heap := h' }) :
    wpAny (model prog w) A (call (.type "zip") [.ref la, .ref lb]) Q E s := by
  refine callType_new F.called_zip (by decide) (F.typeCall_zip_2 _ _) (F.newCall_zip_2 _ _) (fun obj => F.args_object_init_3 obj _ _) F.entry_zip_new
    (meets_zipL_new la lb xs ys) ⟨tl1, tl2, ?_⟩
  have z1 : (zipLH1 s.heap la).objs.size = s.heap.objs.size + 1 := Heap.size_push ..
  have z2 : (zipLH2 s.heap la lb).objs.size = s.heap.objs.size + 2 := by rw [Heap.size_push, z1]
  have z3 : (zipLH3 s.heap la lb).objs.size = s.heap.objs.size + 3 := by rw [Heap.size_push, z2]
  have z4 : (zipLH4 s.heap la lb).objs.size = s.heap.objs.size + 4 := by rw [Heap.size_push, z3]
  have z5 : (zipLH5 s.heap la lb).objs.size = s.heap.objs.size + 5 := by rw [Heap.size_push, z4]
  have g5 : (zipLH5 s.heap la lb).get? (zipLH4 s.heap la lb).objs.size = some _ := Heap.get?_push_size _ rfl
  have g4 : (zipLH5 s.heap la lb).get? (zipLH3 s.heap la lb).objs.size = some _ := Heap.get?_push_of_some _ (Heap.get?_push_size _ rfl)
  have g3 : (zipLH5 s.heap la lb).get? (zipLH2 s.heap la lb).objs.size = some _ := Heap.get?_push_of_some _ (Heap.get?_push_of_some _ (Heap.get?_push_size _ rfl))
  have g2 : (zipLH5 s.heap la lb).get? (zipLH1 s.heap la).objs.size = some _ := Heap.get?_push_of_some _ (Heap.get?_push_of_some _ (Heap.get?_push_of_some _ (Heap.get?_push_size _ rfl)))
  have g1 : (zipLH5 s.heap la lb).get? s.heap.objs.size = some _ := Heap.get?_push_of_some _ (Heap.get?_push_of_some _ (Heap.get?_push_of_some _ (Heap.get?_push_of_some _ (Heap.get?_push_size _ rfl))))
  show _ ∧ _
  rw [z2, z3, z4] at g5
  rw [z1, z2] at g3
  rw [z3] at g4
  rw [z1] at g2
  rw [z4]
  exact ⟨⟨_, g5, rfl⟩, h _ g5 g3 g4 ⟨_, g1, rfl, rfl⟩ ⟨_, g2, rfl, rfl⟩ z5 fun c o x =>
    Heap.get?_push_of_some _ (Heap.get?_push_of_some _ (Heap.get?_push_of_some _ (Heap.get?_push_of_some _ (Heap.get?_push_of_some _ x))))⟩
end
/-- the tuples at a and b as they stand at each turn, the items in new pairs -/
def ItzL (K : PySem.W.Frag) (a b : Addr) : It :=
  ⟨fun i H => ∃ (xs ys : List V) (x y : V), SqL K H a xs ∧ SqL K H b ys ∧ xs[i]? = some x ∧ ys[i]? = some y,
    fun i H v H' => ∃ T x y ob, v = .ref T ∧ H T = none ∧ ob.dict = none ∧ H' = upd H T (.frz ob (.tup [x, y])) ∧ (∀ xs, SqL K H a xs → xs[i]? = some x) ∧ ∀ ys, SqL K H b ys → ys[i]? = some y,
    fun i H => ∃ xs ys : List V, SqL K H a xs ∧ SqL K H b ys ∧ (xs.length ≤ i ∨ ys.length ≤ i)⟩
theorem turn_zipL {P : Program} {w : World} {K : PySem.W.Frag} {elts : List Expr} {kk : Nat} {tpos : Pos} {a b z pa pb ia ib : Addr} (D : ZipApart z pa pb ia ib a b) :
    Turn P w K (.Tuple elts kk tpos) (ItzL K a b) [z, pa, pb, ia, ib] z (fun i h => IsZip h z pa pb .none ∧ IsPair h pa (.ref ia) (.ref ib) ∧ (∃ x y, IsPair h pb x y) ∧ h.IsListIter ia a i ∧ h.IsListIter ib b i) where
  mem := by simp
  obj := fun i h st c hc => by
    obtain ⟨hZ, hPa, ⟨x, y, hPb⟩, ⟨o1, e1, _, d1⟩, ⟨o2, e2, _, d2⟩⟩ := st
    have e' : c = z ∨ c = pa ∨ c = pb ∨ c = ia ∨ c = ib := by simpa using hc
    rcases e' with q | q | q | q | q
    · rw [q]; exact ⟨_, hZ, fun v q => nomatch q⟩
    · rw [q]; exact ⟨_, hPa, fun v q => nomatch q⟩
    · rw [q]; exact ⟨_, hPb, fun v q => nomatch q⟩
    · rw [q]; exact ⟨o1, e1, fun v q => by rw [d1] at q; cases q⟩
    · rw [q]; exact ⟨o2, e2, fun v q => by rw [d2] at q; cases q⟩
  keep := fun i h h' st k => by
    obtain ⟨hZ, hPa, ⟨x, y, hPb⟩, h1, h2⟩ := st
    exact ⟨k z (by simp) _ hZ, k pa (by simp) _ hPa, ⟨x, y, k pb (by simp) _ hPb⟩, h1.at fun o q => k ia (by simp) o q, h2.at fun o q => k ib (by simp) o q⟩
  item := by
    intro X hP hw hK hc i pins s σ H E I hf st hg
    subst hP hw hK
    obtain ⟨hZ, hPa, ⟨x0, y0, hPb⟩, h1, h2⟩ := st
    obtain ⟨xs, ys, x, y, qx, qy, hx, hy⟩ := hg
    obtain ⟨its, rv, p, _⟩ := I.list qx
    obtain ⟨jts, rw2, p2, _⟩ := I.list qy
    obtain ⟨u, hu, ru⟩ := rv.get hx
    obtain ⟨u2, hu2, ru2⟩ := rw2.get hy
    have hzl : z < s.heap.objs.size := Heap.lt_size hZ
    refine pyNext_zipL_item D hZ hPa hPb h1 h2 p.isList p2.isList (x := u) (y := u2) (by simpa using hu) (by simpa using hu2) fun h' z' TO' h1' h2' hT sz5 hk => ?_
    refine ⟨_, rfl, wpAny_letOwnedTupleGo_zip (s := { s with heap := h' }) z' fun h'' z'' sb => ?_⟩
    have hT2 : h''.get? s.heap.objs.size = some { cls := .type "tuple", data := .seq #[u, u2] } := (sb.2 _ (Nat.ne_of_gt hzl)).trans hT
    have new : ObjOk X.prog X.w (upd H s.heap.objs.size (.frz { cls := .type "tuple", data := .seq #[u, u2] } (.tup [x, y]))) h'' s.heap.objs.size (.frz { cls := .type "tuple", data := .seq #[u, u2] } (.tup [x, y])) :=
      ⟨hT2, by show 2 ≤ sizeLine; decide, [u, u2], .cons ru (.cons ru2 .nil), ⟨_, hT2, rfl, _, rfl⟩⟩
    have I1 : Inv X pins σ (upd H s.heap.objs.size (.frz { cls := .type "tuple", data := .seq #[u, u2] } (.tup [x, y]))) { s with heap := h'' } :=
      I.turnedNew (t' := s.toks) (ch := [z, pa, pb, ia, ib]) (fun c o hb q => (sb.2 c (fun q' => hb (by simp [q']))).trans (hk c o (fun q' => hb (by simp [q'])) (fun q' => hb (by simp [q'])) (fun q' => hb (by simp [q'])) (fun q' => hb (by simp [q'])) q)) hf (Nat.le_refl _) new
    refine ⟨.ref s.heap.objs.size, _, I1, rfl, ⟨_, x, y, _, rfl, I.hok.fresh (Nat.le_refl _), rfl, rfl, fun l hl => by rw [I.list_inj hl qx]; exact hx, fun l hl => by rw [I.list_inj hl qy]; exact hy⟩, ⟨z'', ?_, ⟨u, u2, ?_⟩, ?_, ?_⟩, fun c hcm => ?_⟩
    · exact (sb.2 _ D.TIz).trans (hk _ _ D.TIz D.TITO D.TIi1 D.TIi2 hPa)
    · exact (sb.2 _ D.TOz).trans TO'
    · exact h1'.at fun o q => (sb.2 _ D.i1z).trans q
    · exact h2'.at fun o q => (sb.2 _ D.i2z).trans q
    · have hlt : c < s.heap.objs.size := by
        have e' : c = z ∨ c = pa ∨ c = pb ∨ c = ia ∨ c = ib := by simpa using hcm
        rcases e' with q | q | q | q | q
        · rw [q]; exact hzl
        · rw [q]; exact Heap.lt_size hPa
        · rw [q]; exact Heap.lt_size hPb
        · rw [q]; obtain ⟨_, e1, _⟩ := h1; exact Heap.lt_size e1
        · rw [q]; obtain ⟨_, e2, _⟩ := h2; exact Heap.lt_size e2
      rw [upd_ne (Nat.ne_of_lt hlt)]
      exact (hf c hcm).1
  done := by
    intro X hP hw hK hc i pins s σ H E I hf st hg
    subst hP hw hK
    obtain ⟨hZ, hPa, ⟨x0, y0, hPb⟩, h1, h2⟩ := st
    obtain ⟨xs, ys, qx, qy, atEnd⟩ := hg
    obtain ⟨its, rv, p, _⟩ := I.list qx
    obtain ⟨jts, rw2, p2, _⟩ := I.list qy
    have la := rv.length
    have lb := rw2.length
    have he : its.toArray[i]? = none ∨ jts.toArray[i]? = none := by
      rcases atEnd with q | q
      · exact .inl (by simp; omega)
      · exact .inr (by simp; omega)
    exact pyNext_zipL_end (I.ok.hd hc) D hZ hPa hPb h1 h2 p.isList p2.isList he fun h' hk => ⟨rfl, I.turnedL (t' := s.toks) (ch := [z, pa, pb, ia, ib]) (fun c o hb q =>
      hk c o (fun q' => hb (by simp [q'])) (fun q' => hb (by simp [q'])) (fun q' => hb (by simp [q'])) (fun q' => hb (by simp [q'])) q) hf⟩
  self := fun A i s Q E st h => wpAny_pyIter_zip st.1 h
def iZipL (K : PySem.W.Frag) (ta : TA) : TI := fun σ H R => ta σ H fun vs H1 => ∃ a b xs ys, vs = [.ref a, .ref b] ∧ SqL K H1 a xs ∧ SqL K H1 b ys ∧ R (ItzL K a b) H1
theorem pi_zipL {X : Cx} {e e2 : Expr} {ta : TA} {p pos tpos : Pos} {elts : List Expr} {kk : Nat} (hg : Gl X "zip") (hm : X.mg "zip" = none) (ha : PA X [e, e2] ta)
    (hs : (starEach [e, e2] X.env = (false, eval e X.env) :: starEach [e2] X.env) := by rfl) (hpl : ((backTo pos (starEach [e2] X.env)).any (·.1)) = false := by rfl) :
    PI X (.Tuple elts kk tpos) (.Call (.Name "zip" p) [e, e2] [] pos) (iZipL X.K ta) := by
  refine ⟨fun pins s σ H R I h => ?_⟩
  refine (Call_ (ld_blt I hg hm PyProof.Rows.boot_zip (PyProof.Rows.callWith_type1 (thn (ha.run pos pins s σ H _ I h) (fun us s1 ⟨vs, H1, I1, r1, q1⟩ => ?_)) hs hpl)))
  obtain ⟨a, b, xs, ys, ex, qx, qy, q⟩ := q1
  subst ex
  cases r1 with
  | cons r rr =>
    cases rr with
    | cons r' rr =>
      cases rr
      cases r
      cases r'
      have fresh5 : ∀ c, c ∈ [s1.heap.objs.size + 4, s1.heap.objs.size + 2, s1.heap.objs.size + 3, s1.heap.objs.size, s1.heap.objs.size + 1] → FpOk X pins H1 c := (fun c hcm => by
        have hle : s1.heap.objs.size ≤ c := by
          simp only [List.mem_cons, List.not_mem_nil, or_false] at hcm
          omega
        exact I1.fpOk hle (I1.hok.fresh hle))
      obtain ⟨its, rv, p1, _⟩ := (I1.list qx)
      obtain ⟨jts, rw2, p2, _⟩ := (I1.list qy)
      refine (call_zipL p1.isList p2.isList (fun h' hZ hTI hTO h1 h2 sz5 hk => wpAny_pyIter_zip hZ ?_))
      have I2 : Inv X pins σ H1 { s1 with heap := h' } := (I1.kept (t' := s1.toks) hk)
      exact ⟨s1.heap.objs.size + 4, [s1.heap.objs.size + 4, s1.heap.objs.size + 2, s1.heap.objs.size + 3, s1.heap.objs.size, s1.heap.objs.size + 1], _, _, H1, rfl, I2, (turn_zipL (PySem.W.ktu_apart s1.heap.objs.size a b p1.lt p2.lt)), ⟨hZ, hTI, ⟨_, _, hTO⟩, h1, h2⟩, fresh5, q⟩
theorem srcZL_ok {K : PySem.W.Frag × List Addr} {T : List Addr} {H : Hp} {m : List Addr} {S : Sto} {v u : V} {d1 d2 : D} {s1 s2 : Src} {n1 n2 : Nat} (ok : Ok K T H m S) (r : Rep K H m v d1) (r2 : Rep K H m u d2) (hn1 : isTupD d1 = false) (hn2 : isTupD d2 = false) (e1 : srcD S d1 = some (s1, n1)) (e2 : srcD S d2 = some (s2, n2)) :
    ∃ a b, v = .ref a ∧ u = .ref b ∧ (∃ xs, SqL K.1 H a xs) ∧ (∃ ys, SqL K.1 H b ys) ∧ ItOk K T H m (ItzL K.1 a b) (zipS s1 s2) := by
  obtain ⟨a, rfl, hq1, it1⟩ := srcL_ok ok r hn1 e1
  obtain ⟨b, rfl, hq2, it2⟩ := srcL_ok ok r2 hn2 e2
  refine ⟨a, b, rfl, rfl, hq1, hq2, fun E i H' m' S' hE x' o' => ?_⟩
  have t := it1 E i H' m' S' hE x' o'
  have t2 := it2 E i H' m' S' hE x' o'
  have t2b := fun m1 x1 o1 => it2 E i H' m1 S' hE x1 o1
  unfold zipS
  revert t t2 t2b
  cases hs1 : s1 i S' with
  | none => exact fun _ _ _ => trivial
  | some o1 =>
    cases hs2 : s2 i S' with
    | none => exact fun _ _ _ => trivial
    | some o2 =>
      cases o1 with
      | none =>
        intro t t2 _
        obtain ⟨xs, p1, p2⟩ := t
        cases o2 with
        | none =>
          obtain ⟨ys, q1, q2⟩ := t2
          exact ⟨xs, ys, p1, q1, .inl p2⟩
        | some d' =>
          obtain ⟨⟨ys, y, q1, q2⟩, _⟩ := t2
          exact ⟨xs, ys, p1, q1, .inl p2⟩
      | some d =>
        cases o2 with
        | none =>
          intro t t2 _
          obtain ⟨⟨xs, x, p1, p2⟩, _⟩ := t
          obtain ⟨ys, q1, q2⟩ := t2
          exact ⟨xs, ys, p1, q1, .inr q2⟩
        | some d' =>
          rintro ⟨⟨xs, x, p1, p2⟩, hyl⟩ ⟨⟨ys, y, q1, q2⟩, _⟩ t2b
          refine ⟨⟨xs, ys, x, y, p1, q1, p2, q2⟩, fun z H2 hz => ?_⟩
          obtain ⟨Ta, x0, y0, ob, rfl, hT, hb, rfl, hx, hy⟩ := hz
          obtain ⟨m1, x1, o1, r3⟩ := hyl x0 H' ⟨rfl, hx⟩
          obtain ⟨_, hyl2⟩ := t2b m1 (by obtain ⟨B, hB, xB⟩ := x'; exact ⟨B, hB, xB.trans ⟨x1.pre, fun a o h n t => x1.old a o h n (fun z => t (List.mem_append_right _ z)), fun a h n t => x1.new a h n fun z => t (List.mem_append_right _ z)⟩⟩) o1
          obtain ⟨m2, x2, o2, r4⟩ := hyl2 y0 H' ⟨rfl, hy⟩
          have x3 := Ext.laid (o := .frz ob (.tup [x0, y0])) o2 hT
          exact ⟨m2, x1.trans (x2.trans x3), o2.laid hT hb, .tup (.inl (.inr ⟨ob, upd_same⟩)) (Reps.mono x3 o2 (.cons (r3.mono x2 o1) (.cons r4 .nil)))⟩
def dZipL (fa : DA) : DI := fun G S => (fa G S).bind fun p => match p.1 with
  | [x, y] => if isTupD x = true ∨ isTupD y = true then none else (srcD p.2 x).bind fun q1 => (srcD p.2 y).map fun q2 => (zipS q1.1 q2.1, q1.2, p.2)
  | _ => none
section
variable {X : Cx} {T : List Addr} {e e2 : Expr} {p pos tpos : Pos} {elts : List Expr} {kk : Nat} {fa : DA}
theorem iZipL' (m : X.mg "zip" = none) (g : Gl X "zip") (h : PA X [e, e2] (tA X.K T fa))
    (hs : (starEach [e, e2] X.env = (false, eval e X.env) :: starEach [e2] X.env) := by rfl) (hpl : ((backTo pos (starEach [e2] X.env)).any (·.1)) = false := by rfl) :
    PI X (.Tuple elts kk tpos) (.Call (.Name "zip" p) [e, e2] [] pos) (iD X.K T (dZipL fa)) := by
  refine piImp (pi_zipL g m h hs hpl) fun σ H R ⟨Z, G, S, m, src, n, S', ok, en, f, q⟩ => ?_
  unfold dZipL at f
  obtain ⟨⟨ds0, S1⟩, e1, f⟩ := Option.bind_eq_some_iff.mp f
  dsimp only at f
  split at f
  · rename_i x y
    split at f
    · cases f
    · rename_i hxy
      obtain ⟨⟨s1, n1⟩, q1, f⟩ := Option.bind_eq_some_iff.mp f
      obtain ⟨⟨s2, n2⟩, q2, f⟩ := Option.map_eq_some_iff.mp f
      cases f
      refine tA.go ok en e1 fun vs H1 m1 x1 o1 en1 r1 => ?_
      obtain ⟨v, u, rfl, ra, rb⟩ := two_inv r1
      obtain ⟨a, b, rfl, rfl, hq1, hq2, it⟩ := srcZL_ok o1 ra rb (by simp at hxy; exact hxy.1) (by simp at hxy; exact hxy.2) q1 q2
      obtain ⟨xs, hq1⟩ := hq1
      obtain ⟨ys, hq2⟩ := hq2
      exact ⟨a, b, xs, ys, rfl, hq1, hq2, q _ H1 m1 x1 o1 it⟩
  · cases f
end
end Vw
set_option maxRecDepth 100000
set_option maxHeartbeats 4000000
namespace Vw
open PySem PySem.Spec PyProof.Rows L2
/-- one row of whole numbers comes ahead of another -/
def lexL : List Int → List Int → Bool
  | [], [] => false
  | [], _ :: _ => true
  | _ :: _, [] => false
  | x :: xs, y :: ys => if x = y then lexL xs ys else decide (x < y)
theorem lexL_asym : ∀ x y : List Int, lexL x y = true → lexL y x = false
  | [], [], h => by cases h
  | [], _ :: _, _ => rfl
  | _ :: _, [], h => by cases h
  | x :: xs, y :: ys, h => by
    unfold lexL at h ⊢
    by_cases e : x = y
    · rw [if_pos e] at h
      rw [if_pos e.symm]
      exact lexL_asym xs ys h
    · rw [if_neg e] at h
      rw [if_neg (fun q => e q.symm)]
      have := of_decide_eq_true h
      exact decide_eq_false (by omega)
theorem lexL_tr : ∀ x y z : List Int, lexL x y = false → lexL y z = false → lexL x z = false
  | [], [], z, _, h2 => h2
  | [], _ :: _, _, h1, _ => by cases h1
  | _ :: _, [], [], _, _ => rfl
  | _ :: _, [], _ :: _, _, h2 => by cases h2
  | _ :: _, _ :: _, [], _, _ => rfl
  | x :: xs, y :: ys, z :: zs, h1, h2 => by
    unfold lexL at h1 h2 ⊢
    by_cases e1 : x = y
    · rw [if_pos e1] at h1
      by_cases e2 : y = z
      · rw [if_pos e2] at h2
        rw [if_pos (e1.trans e2)]
        exact lexL_tr xs ys zs h1 h2
      · rw [if_neg e2] at h2
        rw [if_neg (fun q => e2 (e1.symm.trans q)), e1]
        exact h2
    · rw [if_neg e1] at h1
      have q1 := of_decide_eq_false h1
      by_cases e2 : y = z
      · rw [← e2, if_neg e1]; exact h1
      · rw [if_neg e2] at h2
        have q2 := of_decide_eq_false h2
        rw [if_neg (by omega)]
        exact decide_eq_false (by omega)
theorem lexL_eq : ∀ x y : List Int, lexL x y = false → lexL y x = false → x = y
  | [], [], _, _ => rfl
  | [], _ :: _, h, _ => by cases h
  | _ :: _, [], _, h => by cases h
  | x :: xs, y :: ys, h1, h2 => by
    unfold lexL at h1 h2
    by_cases e : x = y
    · rw [if_pos e] at h1
      rw [if_pos e.symm] at h2
      rw [e, lexL_eq xs ys h1 h2]
    · rw [if_neg e] at h1
      rw [if_neg (fun q => e q.symm)] at h2
      have q1 := of_decide_eq_false h1
      have q2 := of_decide_eq_false h2
      omega
theorem lexL_swo {α : Type} (k : α → List Int) : SrtO.Swo fun x y => lexL (k x) (k y) := ⟨fun x y h => lexL_asym _ _ h, fun x y z h1 h2 => lexL_tr _ _ _ h2 h1⟩
/-- a tuple of whole numbers stands there -/
def TupR (h : Heap) (v : Value) (ns : List Int) : Prop := ∃ a o its n, v = .ref a ∧ h.get? a = some o ∧ o.cls = .type "tuple" ∧ o.data = .seq its n ∧ Vals (ns.map V.int) its.toList
theorem TupR.keeps {h h' : Heap} {v : Value} {ns : List Int} (p : TupR h v ns) (k : ∀ b o, h.get? b = some o → o.cls = .type "tuple" → h'.get? b = some o) : TupR h' v ns := by
  obtain ⟨a, o, its, n, e, ho, hc, hd, r⟩ := p
  exact ⟨a, o, its, n, e, k a o ho hc, hc, hd, r⟩
theorem tupR_firsts {h : Heap} {k : Value → List Int} : ∀ {vs : List Value}, (∀ v ∈ vs, TupR h v (k v) ∧ k v ≠ []) → ∃ fs : List Value, PySem.W.KatTups h vs fs ∧ fs.length = vs.length ∧ ∀ f ∈ fs, ∃ x t, f = Value.int x t
  | [], _ => ⟨[], PySem.W.KatTups.nil, rfl, fun _ hm => by simp at hm⟩
  | v :: vs, hp => by
    obtain ⟨fs, h1, h2, h3⟩ := tupR_firsts (k := k) (vs := vs) fun v' hm => hp v' (List.mem_cons_of_mem _ hm)
    obtain ⟨⟨a, o, its, n, e, ho, hc, hd, r⟩, hne⟩ := hp v (List.mem_cons_self ..)
    cases hk : k v with
    | nil => exact absurd hk hne
    | cons x ns =>
      rw [hk] at r
      generalize hl : its.toList = l at r
      cases r with
      | cons rx rr =>
        obtain ⟨t, rfl⟩ := rx
        subst e
        have h0 : its[0]? = some (Value.int x t) := by rw [← Array.getElem?_toList, hl]; rfl
        refine ⟨.int x t :: fs, PySem.W.KatTups.cons ho hc hd h0 h1, by rw [List.length_cons, List.length_cons, h2], fun f hm => ?_⟩
        rcases List.mem_cons.mp hm with rfl | hm
        · exact ⟨x, t, rfl⟩
        · exact h3 f hm
section
variable {prog : Program} {w : World} {A : Around} {s : Shared} {E : Value → Shared → Prop}
theorem kat_lex {fin : Bool} {Q : Bool → Shared → Prop} : ∀ (ns ms : List Int) (xs ys : List Value) (i : Nat), Vals (ns.map V.int) xs → Vals (ms.map V.int) ys → fin = decide (ns.length < ms.length) → Q (lexL ns ms) s → PySem.W.KatLex prog w A true fin Q (xs.zip ys) i s
  | [], ms, xs, ys, i, rx, ry, hf, h => by
    cases rx
    refine PySem.W.kat_nil ?_
    cases ms with
    | nil => rw [hf]; exact h
    | cons m ms =>
      rw [hf, show decide (([] : List Int).length < (m :: ms).length) = true from decide_eq_true (by simp)]
      exact h
  | n :: ns, [], xs, ys, i, rx, ry, hf, h => by
    cases ry
    rw [List.zip_nil_right]
    refine PySem.W.kat_nil ?_
    rw [hf, show decide ((n :: ns).length < ([] : List Int).length) = false from decide_eq_false (by simp)]
    exact h
  | n :: ns, m :: ms, xs, ys, i, rx, ry, hf, h => by
    cases rx with
    | cons r1 rx =>
      cases ry with
      | cons r2 ry =>
        obtain ⟨t, rfl⟩ := r1
        obtain ⟨u, rfl⟩ := r2
        rw [List.zip_cons_cons]
        refine PySem.W.kat_cons (SeqAt.EqAt.int_int n t m u prog w _ _ ?_)
        refine PySem.W.kat_go (fun e1 => ?_) (fun e1 => ?_)
        · have e : n = m := by simpa using e1
          refine PySem.W.kat_yes (kat_lex ns ms _ _ (i + 1) rx ry ?_ ?_)
          · rw [hf, List.length_cons, List.length_cons]
            exact decide_eq_decide.mpr (by omega)
          · unfold lexL at h
            rw [if_pos e] at h
            exact h
        · have e : ¬ n = m := by simpa using e1
          unfold lexL at h
          rw [if_neg e] at h
          refine PySem.W.kat_no ?_
          cases i with
          | zero => exact oneLt_int h
          | succ i => exact PySem.W.kat_one _ _ (PyProof.Rows.lt_int h)
theorem tup_cmp {vs : List Value} {k : Value → List Int} (hp : ∀ v ∈ vs, TupR s.heap v (k v)) : SrtO.Cmp prog w A s (tuples' true) (fun p => p.1 ∈ vs) (SrtO.lt2 fun v u => lexL (k v) (k u)) := by
  intro p q hm hm'
  have h1 := hp _ hm
  have h2 := hp _ hm'
  show wpAny (model prog w) A (keyLt' (tuples' true) p.1 q.1) (fun r s' => s' = s ∧ r = lexL (k p.1) (k q.1)) (fun _ _ => False) s
  generalize k p.1 = ns at h1 ⊢
  generalize k q.1 = ms at h2 ⊢
  obtain ⟨a, o, its, n, e, ho, hc, hd, r⟩ := h1
  obtain ⟨a', o', its', n', e', ho', hc', hd', r'⟩ := h2
  rw [e, e']
  refine PySem.W.kat_lt ho hd ho' hd' (kat_lex ns ms _ _ 0 r r' ?_ ⟨rfl, rfl⟩)
  have l1 := r.length
  have l2 := r'.length
  rw [List.length_map] at l1 l2
  rw [l1, l2, Array.length_toList, Array.length_toList]
theorem tup_sortable {a : Addr} {vs : List Value} {k : Value → List Int} (h0 : 0 < vs.length) (hp : ∀ v ∈ vs, TupR s.heap v (k v) ∧ k v ≠ []) (ha : ∀ o, s.heap.get? a = some o → o.cls ≠ .type "tuple") : SrtO.SortableO prog w A s a vs fun v u => lexL (k v) (k u) := by
  intro h' keep
  have hp' : ∀ v ∈ vs, TupR h' v (k v) ∧ k v ≠ [] := fun v hm => ⟨(hp v hm).1.keeps fun b o e c => keep b o (fun z => by subst z; exact ha o e c) e, (hp v hm).2⟩
  obtain ⟨fs, h1, h2, h3⟩ := tupR_firsts hp'
  refine ⟨tuples' true, fun Q E hq => ?_, tup_cmp (s := { s with heap := h' }) fun v hm => (hp' v hm).1⟩
  refine PySem.W.kat_kind (T := .type "int") h1 (by omega) (fun f hm => ?_) (by rfl) ?_
  · obtain ⟨x, t, rfl⟩ := h3 f hm
    exact PySem.W.Looks.now
  · have e : (Value.type "int" != Value.type "tuple") = true := by first | decide +kernel | rfl | decide
    rw [e]
    exact hq
theorem sorted_tupsL {l : Addr} {vs : List Value} {k : Value → List Int} {Q : Value → Shared → Prop} (hl : s.heap.IsList l vs.toArray) (hz : vs.length ≤ sizeLine) (hp : ∀ v ∈ vs, TupR s.heap v (k v) ∧ k v ≠ [])
    (h : ∀ (h' : Heap) (d : Addr) (out : List Value), SrtO.Srtd (fun v u => lexL (k v) (k u)) out → SrtO.Stb (fun v u => lexL (k v) (k u)) out vs → (∀ b o, s.heap.get? b = some o → h'.get? b = some o) → s.heap.objs.size ≤ d → (∃ n, h'.get? d = some (seqObj "list" out.toArray n)) → Q (.ref d) { s with heap := h' }) :
    wpAny (model prog w) A (call (.builtin "sorted") [.ref l]) Q E s := by
  refine SrtO.sorted_ord (lexL_swo k) hl hz (fun h2 h₁ a ha kk => ?_) fun out hs hb => ?_
  · refine tup_sortable (s := { s with heap := h₁ }) (by omega) (fun v hm => ⟨(hp v hm).1.keeps fun b o e _ => (kk b o e).2, (hp v hm).2⟩) fun o e => ?_
    have e' : some o = some (seqObj "list" vs.toArray 0) := e.symm.trans ha
    cases e'
    intro c
    exact absurd (Value.type.inj c) (by decide)
  · exact h _ _ out hs hb (fun b o e => sortedAll_old e) (Nat.le_succ _) (sortedAll_at s.heap vs out.toArray)
end
def leL (x y : List Int) : Bool := !lexL y x
def sortL (nss : List (List Int)) : List (List Int) := nss.mergeSort leL
theorem sortL_perm (nss : List (List Int)) : (sortL nss).Perm nss := List.mergeSort_perm _ _
theorem lexL_total (x y : List Int) : lexL x y = false ∨ lexL y x = false := by
  cases h : lexL x y with
  | false => exact .inl rfl
  | true => exact .inr (lexL_asym x y h)
theorem sortL_pw (nss : List (List Int)) : (sortL nss).Pairwise fun x y => lexL y x = false := by
  have := List.pairwise_mergeSort (le := leL) (fun a b c h1 h2 => by
    unfold leL at *
    rw [Bool.not_eq_true'] at *
    exact lexL_tr c b a h2 h1) (fun a b => by
    unfold leL
    rcases lexL_total a b with h | h
    · rw [h]; simp
    · rw [h]; simp) nss
  exact this.imp fun h => by unfold leL at h; rwa [Bool.not_eq_true'] at h
theorem sortL_only {nss mss : List (List Int)} (h : mss.Perm nss) (hp : mss.Pairwise fun x y => lexL y x = false) : mss = sortL nss :=
  List.Perm.eq_of_pairwise (le := fun x y => lexL y x = false) (fun a b _ _ h1 h2 => lexL_eq a b h2 h1) hp (sortL_pw nss) (h.trans (sortL_perm nss).symm)
/-- there stand tuples of whole numbers, none of them empty -/
inductive TupsI (K : PySem.W.Frag) (H : Hp) : List V → List (List Int) → Prop
  | nil : TupsI K H [] []
  | cons {t : Addr} {ns : List Int} {xs : List V} {nss : List (List Int)} : SqT K H t (ns.map V.int) → ns ≠ [] → TupsI K H xs nss → TupsI K H (.ref t :: xs) (ns :: nss)
theorem TupsI.refs {K : PySem.W.Frag} {H : Hp} : ∀ {xs : List V} {nss : List (List Int)}, TupsI K H xs nss → ∀ x ∈ xs, ∃ a, x = V.ref a
  | _, _, .nil, _, h => by simp at h
  | _, _, .cons (t := t) _ _ r, x, h => by
    rcases List.mem_cons.mp h with e | h
    · exact ⟨t, e⟩
    · exact r.refs x h
theorem TupsI.reps {K : PySem.W.Frag × List Addr} {H : Hp} {m : List Addr} : ∀ {xs : List V} {nss : List (List Int)}, TupsI K.1 H xs nss → Reps K H m xs (nss.map fun ns => D.tup (ns.map D.int))
  | _, _, .nil => .nil
  | _, _, .cons h _ r => .cons (.tup h (reps_intV _)) r.reps
def rSortedL (K : PySem.W.Frag) : List V → Hp → VK → Prop := fun vs H Q => ∃ (a : Addr) (xs : List V) (nss : List (List Int)), vs = [V.ref a] ∧ SqL K H a xs ∧ TupsI K H xs nss ∧
  ∀ ys p, TupsI K H ys (sortL nss) → H p = none → Q (.ref p) (upd H p (.lst ys))
open Classical in
noncomputable def keyK (K : PySem.W.Frag) (H : Hp) (u : Value) : List Int := if h : ∃ (ns : List Int), ∃ t : Addr, u = .ref t ∧ SqT K H t (ns.map V.int) then h.choose else []
theorem map_int_inj : ∀ {a b : List Int}, a.map V.int = b.map V.int → a = b
  | [], [], _ => rfl
  | [], _ :: _, h => by cases h
  | _ :: _, [], h => by cases h
  | x :: xs, y :: ys, h => by
    injection h with h1 h2
    injection h1 with h1
    rw [h1, map_int_inj h2]
theorem keyK_eq {X : Cx} {pins : List (Addr × Obj)} {σ : L2.St} {H : Hp} {s : Shared} (I : Inv X pins σ H s) {t : Addr} {ns : List Int} (h : SqT X.K H t (ns.map V.int)) : keyK X.K H (.ref t) = ns := by
  have ex : ∃ (ms : List Int), ∃ t' : Addr, Value.ref t = .ref t' ∧ SqT X.K H t' (ms.map V.int) := ⟨ns, t, rfl, h⟩
  unfold keyK
  rw [dif_pos ex]
  have q := ex.choose_spec
  generalize ex.choose = ms at q ⊢
  obtain ⟨t', e, q⟩ := q
  obtain rfl := Value.ref.inj e
  exact map_int_inj (I.tuple_inj q h)
theorem tups_its {X : Cx} {pins : List (Addr × Obj)} {σ : L2.St} {H : Hp} {s : Shared} (I : Inv X pins σ H s) : ∀ {xs : List V} {nss : List (List Int)} {its : List Value}, TupsI X.K H xs nss → Vals xs its → its.map (keyK X.K H) = nss ∧ ∀ u ∈ its, ∃ t, u = .ref t ∧ SqT X.K H t ((keyK X.K H u).map V.int) ∧ keyK X.K H u ≠ []
  | _, _, _, .nil, .nil => ⟨rfl, fun _ h => by simp at h⟩
  | _, _, _, .cons (t := t) h hn r, .cons rv rs => by
    obtain ⟨e1, e2⟩ := tups_its I r rs
    obtain rfl := rv
    have k := keyK_eq I h
    refine ⟨by rw [List.map_cons, e1, k], fun u hu => ?_⟩
    rcases List.mem_cons.mp hu with rfl | hu
    · exact ⟨t, rfl, by rw [k]; exact h, by rw [k]; exact hn⟩
    · exact e2 u hu
theorem tups_back {K : PySem.W.Frag} {H : Hp} : ∀ (out : List Value), (∀ u ∈ out, ∃ t, u = .ref t ∧ SqT K H t ((keyK K H u).map V.int) ∧ keyK K H u ≠ []) → TupsI K H (out.map backV) (out.map (keyK K H))
  | [], _ => .nil
  | u :: out, h => by
    obtain ⟨t, rfl, h1, h2⟩ := h u List.mem_cons_self
    exact .cons h1 h2 (tups_back out fun v hv => h v (List.mem_cons_of_mem _ hv))
theorem cr_sortedL {X : Cx} : CallR X (.builtin "sorted") (rSortedL X.K) := by
  intro pins s σ H vs us Q I r h
  obtain ⟨a, xs, nss, rfl, hs, hx, q⟩ := h
  obtain ⟨its, rv, hl, hz⟩ := I.list hs
  rw [Vals.ref1 r]
  obtain ⟨e1, e2⟩ := refs_back rv hx.refs
  obtain ⟨e3, e4⟩ := tups_its I hx rv
  refine sorted_tupsL (k := keyK X.K H) hl.isList (by rw [← rv.length]; exact hz) (fun v hv => ?_) fun h' d out h1 h2 kp hd hn => ?_
  · obtain ⟨t, rfl, ht, hne⟩ := e4 v hv
    obtain ⟨is, ri, ⟨o, ho, hc, n, hd⟩, _⟩ := I.tuple ht
    exact ⟨⟨t, o, is.toArray, n, rfl, ho, hc, hd, ri⟩, hne⟩
  · have hm : ∀ u ∈ out, u ∈ its := fun u hu => h2.perm.mem_iff.mp hu
    have h3 : ∀ u ∈ out, ∃ a, u = Value.ref a := fun u hu => by
      obtain ⟨t, e, _⟩ := e4 u (hm u hu)
      exact ⟨t, e⟩
    obtain ⟨n, hn⟩ := hn
    have es : out.map (keyK X.K H) = sortL nss := by
      refine sortL_only ?_ ?_
      · rw [← e3]; exact h2.perm.map _
      · exact SrtO.srtd_map (lt := lexL) h1
    refine ⟨.ref d, upd H d (.lst (out.map backV)), I.laid (t' := s.toks) kp hd ⟨?_, out, n, vals_back h3, hn⟩, rfl, q _ d ?_ (I.hok.fresh hd)⟩
    · rw [List.length_map, h2.perm.length_eq, ← rv.length]; exact hz
    · rw [← es]
      exact tups_back out fun u hu => e4 u (hm u hu)
def tupsD : List D → Option (List (List Int))
  | [] => some []
  | .tup ds :: xs => (intsD ds).bind fun ns => if ns = [] then none else (tupsD xs).map (ns :: ·)
  | _ => none
theorem tupsD_ok {K : PySem.W.Frag × List Addr} {H : Hp} {m : List Addr} : ∀ {xs : List V} {ds : List D} {nss : List (List Int)}, Reps K H m xs ds → tupsD ds = some nss → TupsI K.1 H xs nss
  | _, _, _, .nil, e => by cases e; exact .nil
  | _, .tup ds :: _, _, .cons r rs, e => by
    unfold tupsD at e
    obtain ⟨ns, e2, e⟩ := Option.bind_eq_some_iff.mp e
    split at e
    · cases e
    · rename_i hn
      obtain ⟨nss, e5, e⟩ := Option.map_eq_some_iff.mp e
      subst e
      cases r with
      | tup hq rt =>
        have e3 := ints_ok rt e2
        subst e3
        exact .cons hq hn (tupsD_ok rs e5)
def opSortedL (c : Bool) : OpC := fun cs S => match cs with
  | [x] => (lstD S x).bind fun ds => (tupsD ds).bind fun nss => okLst c ((sortL nss).map fun ns => D.tup (ns.map D.int)) S
  | _ => none
theorem rule_sortedL {K : PySem.W.Frag} {T : List Addr} {c : Bool} : RuleC K T (rSortedL K) (opSortedL c) := by
  intro Z H m S xs cs z S' Q ok r f q
  unfold opSortedL at f
  split at f
  · obtain ⟨x, rfl, rx⟩ := one_inv r
    obtain ⟨ds, e, f⟩ := Option.bind_eq_some_iff.mp f
    obtain ⟨nss, e2, f⟩ := Option.bind_eq_some_iff.mp f
    obtain ⟨p, ys, rfl, hq, rs⟩ := lstD_ok ok rx e
    exact ⟨p, ys, nss, rfl, SqL.of hq, tupsD_ok rs e2, fun zs l h1 hf => newLst (Q := Q) ok hf h1.reps f q⟩
  · cases f
section
variable {X : Cx} {T : List Addr} {e : Expr} {es : List Expr} {p pos : Pos} {fs : DA}
theorem eSortedL (l : Bool) (m : X.mg "sorted" = none) (g : Gl X "sorted") (ha : PA X (e :: es) (tA X.K T fs)) (he : Es1 X e es := by rfl) (hpl : Pl1 X pos es := by rfl) : PE X (.Call (.Name "sorted" p) (e :: es) [] pos) (tD X.K T (dCall (opSortedL l) fs)) := rCall (pe_callB cr_sortedL g m (by decide +kernel) ha (by decide) (by decide) he hpl) rule_sortedL
end
end Vw
set_option maxRecDepth 100000
set_option maxHeartbeats 4000000
namespace Vw
open PySem PySem.Spec PyProof.Rows L2
def okSort (ps : List PyData) : Bool := (ps.all fun d => ps.all fun e => PySem.W.alike d e) && (ps.all fun d => match d with | .tuple (_ :: _) => true | _ => false) && ps.all fun d => decide (d.depth ≤ 50)
theorem okSort_ok {ps : List PyData} (h : okSort ps = true) : PySem.W.AllAlike ps ∧ PySem.W.Sortable ps ∧ ∀ d ∈ ps, d.depth ≤ 50 := by
  unfold okSort at h
  rw [Bool.and_eq_true, Bool.and_eq_true] at h
  obtain ⟨⟨h1, h2⟩, h3⟩ := h
  refine ⟨fun d hd e he => List.all_eq_true.mp (List.all_eq_true.mp h1 d hd) e he, .inl fun d hd => ?_, fun d hd => of_decide_eq_true (List.all_eq_true.mp h3 d hd)⟩
  have := List.all_eq_true.mp h2 d hd
  match d, this with
  | .tuple (x :: r), _ => exact ⟨x, r, rfl⟩
def psOf (S : Sto) (ds : List D) : Option (List PyData) := toPs (cell1 (cell1 noCell S) S) ds
theorem psOf_ok {K : PySem.W.Frag × List Addr} {T : List Addr} {H : Hp} {m : List Addr} {S : Sto} (ok : Ok K T H m S) {ds : List D} {vs : List V} {ps : List PyData} (r : Reps K H m vs ds) (e : psOf S ds = some ps) : DpAll K.1 H vs ps :=
  toPs_ok (cell1_ok ok (cell1_ok ok (fun _ _ _ _ z => by cases z))) r e
end Vw
set_option maxRecDepth 100000
set_option maxHeartbeats 4000000
namespace Vw
open PySem PySem.Spec PyProof.Rows L2
def rMinD (K : PySem.W.Frag) : List V → Hp → VK → Prop := fun vs H Q => ∃ (a : Addr) (xs : List V) (d : PyData) (ds : List PyData), vs = [V.ref a] ∧ SqL K H a xs ∧ DpAll K H xs (d :: ds) ∧ okSort (d :: ds) = true ∧
  ∀ (i : Nat) (x : V), xs[i]? = some x → (d :: ds)[i]? = some (PySem.W.minD d ds) → Q x H
theorem depth_all {n : Nat} : ∀ {ds : List PyData}, (∀ d ∈ ds, d.depth ≤ n) → PyData.depthAll ds ≤ n
  | [], _ => Nat.zero_le _
  | d :: ds, h => by
    have h1 := h d List.mem_cons_self
    have h2 := depth_all (ds := ds) fun e he => h e (List.mem_cons_of_mem _ he)
    show max d.depth (PyData.depthAll ds) ≤ n
    omega
theorem vals_ix : ∀ {xs : List V} {us : List Value} {i : Nat} {u : Value}, Vals xs us → us[i]? = some u → ∃ x, xs[i]? = some x ∧ RelV x u
  | _, _, _, _, .nil, e => by simp at e
  | _, _, 0, _, .cons r _, e => by cases e; exact ⟨_, rfl, r⟩
  | _, _, i + 1, u, .cons _ t, e => vals_ix (i := i) t (by simpa using e)
theorem cr_minD {X : Cx} (hc : X.calm = true) (hu : X.A.units + 64 < cLine) : CallR X (.builtin "min") (rMinD X.K) := by
  intro pins s σ H vs us Q I r h
  obtain ⟨a, xs, d, ds, rfl, hs, hd, ho, q⟩ := h
  obtain ⟨its, rv, hl, hz⟩ := I.list hs
  rw [Vals.ref1 r]
  obtain ⟨h1, h2, h3⟩ := okSort_ok ho
  obtain ⟨as, hr⟩ := Dp.readsAll I _ _ _ hd rv
  have hne : ∀ e ∈ d :: ds, e ≠ .none := fun e he => by
    rcases h2 with h2 | h2
    · obtain ⟨x, r, e'⟩ := h2 e he
      rw [e']; intro z; cases z
    · exact (h2 e he).1
  refine PySem.W.min_list_data (vs := its.toArray) (I.ok.hd hc) hl.isList (by simpa using hr) ⟨h1, hne⟩ (by have := depth_all h3; omega) fun i v h' tk bs hv hm hk => ?_
  have hv' : its[i]? = some v := by simpa using hv
  obtain ⟨x, hx, rx⟩ := vals_ix rv hv'
  obtain ⟨cs, r1, hi, _, _⟩ := PySem.W.readsAll_at hr i v hv'
  have r2 := PyProof.Rows.Reads.keeps hk r1
  have e := (PySem.Reads.unique r2 _ _ hm).1
  refine ⟨x, H, I.kept hk, rx, q i x hx ?_⟩
  rw [List.getElem?_eq_getElem hi, ← e, List.getD_eq_getElem?_getD, List.getElem?_eq_getElem hi]; rfl
open Classical in
noncomputable def opMinD : OpC := fun cs S => match cs with
  | [x] => (lstD S x).bind fun ds => (psOf S ds).bind fun ps => match ps with
    | [] => none
    | p :: rest => if okSort (p :: rest) = true then (if h : ∃ d : D, ∀ i : Nat, (p :: rest)[i]? = some (PySem.W.minD p rest) → ds[i]? = some d then some (h.choose, S) else none) else none
  | _ => none
theorem reps_at {K : PySem.W.Frag × List Addr} {H : Hp} {m : List Addr} : ∀ {xs : List V} {ds : List D} {i : Nat} {x : V} {d : D}, Reps K H m xs ds → xs[i]? = some x → ds[i]? = some d → Rep K H m x d
  | _, _, _, _, _, .nil, e, _ => by simp at e
  | _, _, 0, _, _, .cons r _, e, e2 => by cases e; cases e2; exact r
  | _, _, i + 1, _, _, .cons _ t, e, e2 => reps_at (i := i) t (by simpa using e) (by simpa using e2)
theorem rule_minD {K : PySem.W.Frag} {T : List Addr} : RuleC K T (rMinD K) opMinD := by
  intro Z H m S xs cs z S' Q ok r f q
  unfold opMinD at f
  split at f
  · obtain ⟨x, rfl, rx⟩ := one_inv r
    obtain ⟨ds, e, f⟩ := Option.bind_eq_some_iff.mp f
    obtain ⟨ps, e2, f⟩ := Option.bind_eq_some_iff.mp f
    split at f
    · cases f
    · rename_i p rest
      split at f
      · rename_i ho
        split at f
        · rename_i hex
          cases f
          obtain ⟨a, ys, rfl, hq, rs⟩ := lstD_ok ok rx e
          exact ⟨a, ys, p, rest, rfl, SqL.of hq, psOf_ok ok rs e2, ho, fun i y hy hm => q y H m Ext.refl ok (reps_at rs hy (hex.choose_spec i hm))⟩
        · cases f
      · cases f
  · cases f
/-- what it tells, where the items are known -/
theorem minD_of {α : Type} {S : Sto} {x : D} {l : List α} {f : α → D} {g : α → PyData} {p : PyData} {rest : List PyData} {a : α} (h1 : lstD S x = some (l.map f)) (h2 : psOf S (l.map f) = some (l.map g)) (h3 : l.map g = p :: rest) (h4 : okSort (l.map g) = true) (ha : a ∈ l) (hg : g a = PySem.W.minD p rest) (inj : ∀ b ∈ l, g b = g a → f b = f a) :
    opMinD [x] S = some (f a, S) := by
  show (lstD S x).bind (fun ds => (psOf S ds).bind fun ps => match ps with
    | [] => none
    | p :: rest => if okSort (p :: rest) = true then (open Classical in if h : ∃ d : D, ∀ i : Nat, (p :: rest)[i]? = some (PySem.W.minD p rest) → ds[i]? = some d then some (h.choose, S) else none) else none) = _
  rw [h1]
  show (psOf S (l.map f)).bind _ = _
  rw [h2, h3]
  have hex : ∃ d : D, ∀ i : Nat, (p :: rest)[i]? = some (PySem.W.minD p rest) → (l.map f)[i]? = some d := ⟨f a, fun i hi => by
    rw [← h3, List.getElem?_map] at hi
    obtain ⟨b, hb, e⟩ := Option.map_eq_some_iff.mp hi
    rw [List.getElem?_map, hb]
    show some (f b) = _
    rw [inj b (List.mem_of_getElem? hb) (by rw [e, hg])]⟩
  show (if okSort (p :: rest) = true then (open Classical in if h : ∃ d : D, ∀ i : Nat, (p :: rest)[i]? = some (PySem.W.minD p rest) → (l.map f)[i]? = some d then some (h.choose, S) else none) else none) = _
  rw [if_pos (by rw [← h3]; exact h4), dif_pos hex]
  obtain ⟨i, hi, e⟩ := List.getElem_of_mem ha
  have hs := hex.choose_spec i (by rw [← h3, List.getElem?_map, List.getElem?_eq_getElem hi, e, ← hg]; rfl)
  rw [List.getElem?_map, List.getElem?_eq_getElem hi, e] at hs
  have := Option.some.inj hs
  rw [← this]
section
variable {X : Cx} {T : List Addr} {e : Expr} {es : List Expr} {p pos : Pos} {fs : DA} {k : Nat}
theorem eMinD (F : Fit X k) (m : X.mg "min" = none) (g : Gl X "min") (ha : PA X (e :: es) (tA X.K T fs)) (he : Es1 X e es := by rfl) (hpl : Pl1 X pos es := by rfl) : PE X (.Call (.Name "min" p) (e :: es) [] pos) (tD X.K T (dCall opMinD fs)) := rCall (pe_callB (cr_minD F.calm F.room.units) g m (by decide +kernel) ha (by decide) (by decide) he hpl) rule_minD
end
end Vw
set_option maxRecDepth 100000
set_option maxHeartbeats 4000000
namespace Vw
open PySem PySem.Spec L2
def dsNo : DS := fun _ _ => none
theorem pss_no {X : Cx} {sts : List Stmt} {K : PySem.W.Frag} {T : List Addr} : PSs X sts (sD K T dsNo) := ⟨fun _ _ _ _ _ _ h => by
  obtain ⟨_, _, _, _, _, _, _, _, _, h, _⟩ := h
  cases h⟩
end Vw
set_option maxRecDepth 100000
set_option maxHeartbeats 4000000
namespace Vw
open PySem PySem.Spec L2
/-- the turns of the first clause: each goes through the second one -/
def dLc2Loop (src : Src) (g : DG) (t : DT) (w1 : DI) (g1 : DG) (t1 : DT) (f : DE) (own1 : List Nat) (G : Gam) : Nat → Nat → Sto → List D → Option (List D × Sto)
  | 0, _, _, _ => none
  | n + 1, i, S, acc => (src i S).bind fun o => match o with
    | none => some (acc, S)
    | some d => (g d G S).bind fun p => (t p.1 p.2).bind fun b => if b.1 = true
        then (w1 p.1 b.2).bind fun q => (dLcLoop q.1 g1 t1 f (wipeG p.1 own1) q.2.1 0 q.2.2 acc).bind fun r => dLc2Loop src g t w1 g1 t1 f own1 G n (i + 1) r.2 r.1
        else dLc2Loop src g t w1 g1 t1 f own1 G n (i + 1) b.2 acc
theorem dLc2Loop_len {src : Src} {g : DG} {t : DT} {w1 : DI} {g1 : DG} {t1 : DT} {f : DE} {own1 : List Nat} {G : Gam} : ∀ (n i : Nat) (S : Sto) (acc ds : List D) (S' : Sto), dLc2Loop src g t w1 g1 t1 f own1 G n i S acc = some (ds, S') → acc.length ≤ ds.length
  | 0, _, _, _, _, _, h => by cases h
  | n + 1, i, S, acc, ds, S', h => by
    unfold dLc2Loop at h
    obtain ⟨o, e1, h⟩ := Option.bind_eq_some_iff.mp h
    cases o with
    | none => cases h; exact Nat.le_refl _
    | some d =>
      obtain ⟨p, e2, h⟩ := Option.bind_eq_some_iff.mp h
      obtain ⟨b, e3, h⟩ := Option.bind_eq_some_iff.mp h
      split at h
      · obtain ⟨q, e4, h⟩ := Option.bind_eq_some_iff.mp h
        obtain ⟨⟨r, S3⟩, e5, h⟩ := Option.bind_eq_some_iff.mp h
        exact Nat.le_trans (dLcLoop_len _ _ _ _ _ _ e5) (dLc2Loop_len n _ _ _ _ _ h)
      · exact dLc2Loop_len n _ _ _ _ _ h
def dLc2 (c : Bool) (own own1 : List Nat) (w : DI) (g : DG) (t : DT) (w1 : DI) (g1 : DG) (t1 : DT) (f : DE) : DE := fun G S => ((w G S).bind fun p => dLc2Loop p.1 g t w1 g1 t1 f own1 (wipeG G own) p.2.1 0 p.2.2 []).bind fun p => okLst c p.1 p.2
theorem openLc2 {K : PySem.W.Frag} {T : List Addr} {c : Bool} {own own1 : List Nat} {w : DI} {g : DG} {t : DT} {w1 : DI} {g1 : DG} {t1 : DT} {f : DE} : ∀ σ H Q, tD K T (dLc2 c own own1 w g t w1 g1 t1 f) σ H Q → tLc2 (iD K T w) (gD K T own g) (tB K T t) (iD K T w1) (gD K T own1 g1) (tB K T t1) (tD K T f) own own1 σ H Q := by
  rintro σ H Q ⟨Z, G, S, m, d, S', ok, en, e, q⟩
  unfold dLc2 at e
  obtain ⟨⟨ds, S2⟩, e, eL⟩ := Option.bind_eq_some_iff.mp e
  obtain ⟨⟨src, n, S1⟩, e1, e⟩ := Option.bind_eq_some_iff.mp e
  refine ⟨Z, G, S, m, src, n, S1, ok, en, e1, fun J H1 m1 x1 o1 it => ?_⟩
  intro Dp hD
  have hE : ∀ a ∈ [Dp], H1 a = none := fun a ha => by rw [List.mem_singleton.mp ha]; exact hD
  have hZ : Dp ∉ Z := (o1.free hD).2.2
  refine ⟨fun i k H => ∃ (S : Sto) (m : List Addr) (acc : List D) (xs : List V), Ext T H1 m1 H m ∧ Ok (K, [Dp] ++ Z) T H m S ∧ EnvOk (K, [Dp] ++ Z) H m (L2.wipe σ own) (wipeG G own) ∧ H Dp = some (.lst xs) ∧ Reps (K, [Dp] ++ Z) H m xs acc ∧
    dLc2Loop src g t w1 g1 t1 f own1 (wipeG G own) k i S acc = some (ds, S2),
    ⟨n, S1, m1, [], [], Ext.laid o1 hD, o1.aside hD, ((en.mono x1 ok).wipe own).aside hD, upd_same, .nil, e⟩, ?_⟩
  rintro i k H2 ⟨S3, m2, acc, xs, x2, o2, en2, hx, rs, e2⟩
  cases k with
  | zero => cases e2
  | succ k =>
    unfold dLc2Loop at e2
    obtain ⟨o, e3, e4⟩ := Option.bind_eq_some_iff.mp e2
    have tt := it [Dp] i H2 m2 S3 hE x2.h o2
    rw [e3] at tt
    cases o with
    | none =>
      cases e4
      refine .inl ⟨tt, ?_⟩
      have ob := o2.bare
      have nd := (o2.hid Dp (List.mem_append_left _ (List.mem_singleton.mpr rfl))).1
      unfold okLst at eL
      split at eL
      · split at eL
        · cases eL
          have xc : Ext T H m H2 (m2 ++ [Dp]) := by
            have x3 := x1.trans x2
            refine ⟨?_, fun a u ha hn ht => x3.old a u ha hn ht, fun a ha hn ht => ?_⟩
            · obtain ⟨r, er⟩ := x3.pre
              exact ⟨r ++ [Dp], by rw [er, List.append_assoc]⟩
            · rcases List.mem_append.mp ha with ha | ha
              · exact x3.new a ha hn ht
              · rw [List.mem_singleton.mp ha] at hn ht ⊢
                cases qq : H Dp with
                | none => rfl
                | some u => rw [x1.old _ u qq hn ht] at hD; cases hD
          refine q _ H2 (m2 ++ [Dp]) xc ?_ (.loc (by rw [← ob.len]; simp))
          exact o2.nowCell hx rs nd
        · cases eL
          exact q _ H2 m2 (x1.trans x2) ob (.lst hx nd hZ rs.bare)
      · cases eL
    | some dv =>
      obtain ⟨⟨G4, S4⟩, e5, e6⟩ := Option.bind_eq_some_iff.mp e4
      obtain ⟨⟨b, S5⟩, e7, e8⟩ := Option.bind_eq_some_iff.mp e6
      refine .inr ⟨tt.1, fun H' => ∃ (S : Sto) (m : List Addr) (acc : List D) (xs : List V), Ext T H1 m1 H' m ∧ Ok (K, [Dp] ++ Z) T H' m S ∧ EnvOk (K, [Dp] ++ Z) H' m (L2.wipe σ own) (wipeG G own) ∧ H' Dp = some (.lst xs) ∧ Reps (K, [Dp] ++ Z) H' m xs acc ∧
        dLc2Loop src g t w1 g1 t1 f own1 (wipeG G own) k (i + 1) S acc = some (ds, S2), fun H' w => ⟨k, Nat.lt_succ_self k, w⟩, fun x H' y => ?_⟩
      obtain ⟨m', x', o', r'⟩ := tt.2 x H' y
      have nd2 : ∀ {m3 : List Addr} {H3 : Hp}, Ext T H2 m2 H3 m3 → H3 Dp = some (.lst xs) := fun {m3 H3} x3 => by
        have h1 := (o2.hid Dp (List.mem_append_left _ (List.mem_singleton.mpr rfl))).1
        exact (x3.lst o2 hx h1).1
      refine ⟨[Dp] ++ Z, dv, _, S3, m', G4, S4, o', en2.mono x' o2, r', e5, fun σ2 H4 m4 x4 o4 en4 sl4 => ⟨wipe_of_sl sl4, ?_⟩⟩
      refine tB.go o4 en4 e7 fun H5 m5 x5 o5 en5 => ?_
      have x6 := (x'.trans x4).trans x5
      cases b with
      | false =>
        rw [if_neg Bool.false_ne_true]
        simp only [Bool.false_eq_true, if_false] at e8
        exact ⟨S5, m5, acc, xs, x2.trans x6, o5, en2.mono x6 o2, nd2 x6, rs.mono x6 o2, e8⟩
      | true =>
        rw [if_pos rfl]
        simp only [if_true] at e8
        obtain ⟨⟨src1, n1, S6⟩, e9, e10⟩ := Option.bind_eq_some_iff.mp e8
        obtain ⟨⟨acc1, S7⟩, e11, e12⟩ := Option.bind_eq_some_iff.mp e10
        refine ⟨[Dp] ++ Z, G4, S5, m5, src1, n1, S6, o5, en5, e9, fun J1 H6 m6 x7 o6 it1 => ?_⟩
        have x8 := x6.trans x7
        refine ⟨fun j k1 H => ∃ (S : Sto) (m : List Addr) (acc : List D) (xs : List V), Ext ([Dp] ++ T) H6 m6 H m ∧ Ext T H1 m1 H m ∧ Ok (K, [Dp] ++ Z) T H m S ∧ EnvOk (K, [Dp] ++ Z) H m (L2.wipe σ own) (wipeG G own) ∧ EnvOk (K, [Dp] ++ Z) H m (L2.wipe σ2 own1) (wipeG G4 own1) ∧ H Dp = some (.lst xs) ∧ Reps (K, [Dp] ++ Z) H m xs acc ∧
          dLcLoop src1 g1 t1 f (wipeG G4 own1) k1 j S acc = some (acc1, S7),
          ⟨n1, S6, m6, acc, xs, Ext.refl, x2.trans x8, o6, en2.mono x8 o2, (en5.mono x7 o5).wipe own1, nd2 x8, rs.mono x8 o2, e11⟩, ?_⟩
        rintro j k1 H7 ⟨S8, m7, ac, ys, x9, x10, o7, en7, en8, hy, rs7, e13⟩
        cases k1 with
        | zero => cases e13
        | succ k1 =>
          unfold dLcLoop at e13
          obtain ⟨o, e14, e15⟩ := Option.bind_eq_some_iff.mp e13
          have t2 := it1 [] j H7 m7 S8 (fun a ha => by cases ha) ⟨[Dp], fun a ha => by rw [List.mem_singleton.mp ha]; exact ⟨List.mem_append_left _ (List.mem_singleton.mpr rfl), xs, nd2 x8⟩, x9⟩ o7
          rw [e14] at t2
          cases o with
          | none =>
            cases e15
            exact .inl ⟨t2, _, m7, _, ys, x10, o7, en7, hy, rs7, e12⟩
          | some du =>
            obtain ⟨⟨G9, S9⟩, e16, e17⟩ := Option.bind_eq_some_iff.mp e15
            obtain ⟨⟨b1, S10⟩, e18, e19⟩ := Option.bind_eq_some_iff.mp e17
            refine .inr ⟨t2.1, fun H' => ∃ (S : Sto) (m : List Addr) (acc : List D) (xs : List V), Ext ([Dp] ++ T) H6 m6 H' m ∧ Ext T H1 m1 H' m ∧ Ok (K, [Dp] ++ Z) T H' m S ∧ EnvOk (K, [Dp] ++ Z) H' m (L2.wipe σ own) (wipeG G own) ∧ EnvOk (K, [Dp] ++ Z) H' m (L2.wipe σ2 own1) (wipeG G4 own1) ∧ H' Dp = some (.lst xs) ∧ Reps (K, [Dp] ++ Z) H' m xs acc ∧
              dLcLoop src1 g1 t1 f (wipeG G4 own1) k1 (j + 1) S acc = some (acc1, S7), fun H' w => ⟨k1, Nat.lt_succ_self k1, w⟩, fun z H' y => ?_⟩
            obtain ⟨m8, x11, o8, r8⟩ := t2.2 z H' y
            have nd3 : ∀ {m3 : List Addr} {H3 : Hp}, Ext T H7 m7 H3 m3 → H3 Dp = some (.lst ys) := fun {m3 H3} x3 => by
              have h1 := (o7.hid Dp (List.mem_append_left _ (List.mem_singleton.mpr rfl))).1
              exact (x3.lst o7 hy h1).1
            refine ⟨[Dp] ++ Z, du, _, S8, m8, G9, S9, o8, en8.mono x11 o7, r8, e16, fun σ3 H9 m9 x12 o9 en9 sl9 => ⟨wipe_of_sl sl9, ?_⟩⟩
            refine tB.go o9 en9 e18 fun H10 m10 x13 o10 en10 => ?_
            have x14 := (x11.trans x12).trans x13
            cases b1 with
            | false =>
              rw [if_neg Bool.false_ne_true]
              simp only [Bool.false_eq_true, if_false] at e19
              exact ⟨S10, m10, ac, ys, x9.trans x14.more, x10.trans x14, o10, en7.mono x14 o7, en8.mono x14 o7, nd3 x14, rs7.mono x14 o7, e19⟩
            | true =>
              rw [if_pos rfl]
              simp only [if_true] at e19
              obtain ⟨⟨yv, S11⟩, e20, e21⟩ := Option.bind_eq_some_iff.mp e19
              refine tD.go o10 en10 e20 fun v H11 m11 x15 o11 en11 r11 => ?_
              have x16 := x14.trans x15
              have hx11 := nd3 x16
              have rs11 := rs7.mono x16 o7
              have nd7 := (o11.hid Dp (List.mem_append_left _ (List.mem_singleton.mpr rfl))).1
              refine ⟨ys, hx11, ?_, ?_⟩
              · have h1 := dLcLoop_len _ _ _ _ _ _ e21
                have h2 := dLc2Loop_len _ _ _ _ _ _ e12
                have h3 := okLst_len eL
                rw [List.length_append] at h1
                rw [rs7.len]
                exact lim_lt (Nat.le_trans (Nat.le_trans (Nat.le_trans (Nat.le_add_right _ _) h1) h2) h3)
              · have x17 := x9.trans x16.more
                have x18 := x10.trans x16
                refine ⟨S11, m11, ac ++ [yv], ys ++ [v], ?_, ?_, o11.grow nd7 hx11, (en7.mono x16 o7).grow nd7 hx11, (en8.mono x16 o7).grow nd7 hx11, upd_same, ?_, e21⟩
                · exact ⟨x17.pre, fun a u ha hn ht => by rw [upd_ne (fun z => ht (List.mem_append_left _ (List.mem_singleton.mpr z)))]; exact x17.old a u ha hn ht, x17.new⟩
                · refine ⟨x18.pre, fun a u ha hn ht => ?_, x18.new⟩
                  have ne : a ≠ Dp := fun z => by rw [z, hD] at ha; cases ha
                  rw [upd_ne ne]
                  exact x18.old a u ha hn ht
                · exact (rs11.app (.one r11)).grow hx11
section
variable {X : Cx} {T : List Addr}
theorem rLc2 {elt tg iter tg1 iter1 : Expr} {ifs ifs1 : List Expr} {scope : Scope} {own : List (Str × Nat)} {vs1 : List Nat} {pos : Pos} {c : Bool} {w : DI} {g : DG} {t : DT} {w1 : DI} {g1 : DG} {t1 : DT} {f : DE} (hc : X.calm = true) (hN : X.N.Nodup) (hi : PI X tg iter (iD X.K T w)) (ok : BlkOk X.N X.env.scope scope own) (hv : (vs1.all fun i => decide (i ∈ own.map (·.2))) = true)
    (hg : ∀ (s : Shared) (H : Hp) (C : Addr) (cl : List (Str × Addr)) (fp : List Addr), PG (X.blk s H scope (compEnvC scope cl C X.env) fp) tg (gD X.K T (own.map (·.2)) g)) (ht : ∀ (s : Shared) (H : Hp) (C : Addr) (cl : List (Str × Addr)) (fp : List Addr), PTs (X.blk s H scope (compEnvC scope cl C X.env) fp) ifs (tB X.K T t))
    (hi1 : ∀ (s : Shared) (H : Hp) (C : Addr) (cl : List (Str × Addr)) (fp : List Addr), PI (X.blk s H scope (compEnvC scope cl C X.env) fp) tg1 iter1 (iD X.K T w1))
    (hg1 : ∀ (s : Shared) (H : Hp) (C : Addr) (cl : List (Str × Addr)) (fp : List Addr), PG (X.blk s H scope (compEnvC scope cl C X.env) fp) tg1 (gD X.K T vs1 g1)) (ht1 : ∀ (s : Shared) (H : Hp) (C : Addr) (cl : List (Str × Addr)) (fp : List Addr), PTs (X.blk s H scope (compEnvC scope cl C X.env) fp) ifs1 (tB X.K T t1))
    (he : ∀ (s : Shared) (H : Hp) (C : Addr) (cl : List (Str × Addr)) (fp : List Addr), PE (X.blk s H scope (compEnvC scope cl C X.env) fp) elt (tD X.K T f)) (hs : ∀ x, foldedSetIterable iter X.env x = pure x := by intro _; rfl) (hs1 : ∀ env x, foldedSetIterable iter1 env x = pure x := by intro _ _; rfl) :
    PE X (.ListComp elt [⟨tg, iter, ifs, 0⟩, ⟨tg1, iter1, ifs1, 0⟩] scope pos) (tD X.K T (dLc2 c (own.map (·.2)) vs1 w g t w1 g1 t1 f)) :=
  peImp (pe_lc2 hc hN hi ok (fun i hi => of_decide_eq_true (List.all_eq_true.mp hv i hi)) hg ht hi1 hg1 ht1 he hs hs1) openLc2
end
end Vw
set_option maxRecDepth 100000
set_option maxHeartbeats 4000000
namespace Vw
open PySem PySem.Spec PyProof.Rows L2
theorem reps_rg {K : PySem.W.Frag × List Addr} {H : Hp} {m : List Addr} (n : Int) : Reps K H m (rgV 0 n) (rngD 0 n) := by
  unfold rgV rngD
  generalize List.range (n - 0).toNat = l
  induction l with
  | nil => exact .nil
  | cons a l ih => exact .cons (.int _) ih
def dLrg (c : Bool) (fe : DE) : DE := fun G S => (fe G S).bind fun p => match p.1 with
  | .int n => if -1000000 ≤ n ∧ n ≤ 1000000 then okLst c (rngD 0 n) p.2 else none
  | _ => none
section
variable {X : Cx} {T : List Addr} {a e : Expr} {es : List Expr} {p p2 pos pos2 : Pos} {fe : DE} {fs : DA}
theorem eLrg (c : Bool) (F : X.calm = true) (g : Gl X "list") (m : X.mg "list" = none) (g2 : Gl X "range") (m2 : X.mg "range" = none) (h : PE X a (tD X.K T fe)) (n1 : starEach [a] X.env = (false, eval a X.env) :: starEach [] X.env)
    (n2 : starEach [.Call (.Name "range" p2) [a] [] pos2] X.env = (false, eval (.Call (.Name "range" p2) [a] [] pos2) X.env) :: starEach [] X.env) : PE X (.Call (.Name "list" p) [.Call (.Name "range" p2) [a] [] pos2] [] pos) (tD X.K T (dLrg c fe)) := by
  refine peImp (pe_listRg F g m (prg_1 g2 m2 h n1) n2) fun σ H Q ⟨Z, G, S, mm, d, S', ok, en, f, q⟩ => ?_
  unfold dLrg at f
  obtain ⟨⟨x, S1⟩, e1, f⟩ := Option.bind_eq_some_iff.mp f
  dsimp only at f
  split at f
  case h_2 => cases f
  rename_i n
  split at f
  case isFalse => cases f
  rename_i hn
  refine tD.go ok en e1 fun v H1 m1 x1 o1 en1 r1 => ?_
  cases r1
  exact ⟨n, rfl, ⟨by omega, by omega, by omega, by omega, by omega⟩, fun p hp => newLst (Q := Q) o1 hp (reps_rg n) f fun w H3 m3 x3 o3 r3 => q w H3 m3 (x1.trans x3) o3 r3⟩
end
end Vw
set_option maxRecDepth 100000
set_option maxHeartbeats 4000000
namespace Vw
open PySem PySem.Spec PyProof.Rows L2
section
variable {X : Cx} {T : List Addr} {o : Expr} {apos cpos : Pos} {fo : DE}
def opPop0 : OpM := fun c cs S => match c, cs with
  | .loc n, [] => match S[n]? with
    | some (.lst ds) => match ds[ds.length - 1]? with
      | some d => some (d, S.set n (Cell.lst ds.dropLast))
      | none => none
    | _ => none
  | _, _ => none
theorem rule_pop0 {K : PySem.W.Frag} {T : List Addr} : RuleM K T rPop opPop0 := by
  intro Z H m S x c xs cs z S' Q ok rx r f q
  unfold opPop0 at f
  split at f
  · split at f
    · rename_i ds es
      split at f
      · rename_i d ed
        cases f
        cases r
        obtain ⟨a, vs, rfl, hm, hq, rs⟩ := locL ok rx es
        obtain ⟨v, ev, rv⟩ := rs.get ed
        rw [← rs.len] at ev
        have rd : Reps (K, Z) H m vs.dropLast ds.dropLast := by
          rw [List.dropLast_eq_take, List.dropLast_eq_take, rs.len]
          exact rs.take _
        exact ⟨_, _, _, rfl, rfl, hq, ev, q _ _ m (Ext.put ok hm) (ok.putLst hm rd) (rv.mono (Ext.put ok hm) ok)⟩
      · cases f
    · cases f
  · cases f
theorem ePop0 (ho : PE X o (tD X.K T fo)) (h1 : attributeBase o "pop" X.env (eval o X.env) = eval o X.env) (h3 : (apos.endLine == cpos.line) = true) :
    PE X (.Call (.Attribute o "pop" apos) [] [] cpos) (tD X.K T (dMeth0 "list" opPop0 fo)) := rMeth0 (pe_bm0 PySem.F.plainAttrs_list PySem.F.slot_list_pop PySem.F.type_list_pop mt_pop ho h1 h3) rule_pop0
theorem pop0_of {S : Sto} {n : Nat} {ds : List D} {d : D} (h : S[n]? = some (Cell.lst (ds ++ [d]))) : opPop0 (.loc n) [] S = some (d, S.set n (Cell.lst ds)) := by
  show (match S[n]? with | some (.lst ds) => _ | _ => none) = _
  rw [h]
  show (match (ds ++ [d])[(ds ++ [d]).length - 1]? with | some d2 => some (d2, S.set n (Cell.lst (ds ++ [d]).dropLast)) | none => none) = _
  rw [List.dropLast_concat, List.length_append]
  show (match (ds ++ [d])[ds.length + 1 - 1]? with | some d2 => some (d2, S.set n (Cell.lst ds)) | none => none) = _
  rw [Nat.add_sub_cancel, List.getElem?_append_right (Nat.le_refl _), Nat.sub_self]
  rfl
end
end Vw
set_option maxRecDepth 100000
set_option maxHeartbeats 4000000
namespace Vw
open PySem PySem.Spec PyProof.Rows L2
section
variable {X : Cx} {T : List Addr} {es : List Expr} {pos : Pos} {I : List Nat} {gs : DGs}
def dgLst (n : Nat) (gs : DGs) : DG := fun d G S => match d with
  | .lst ds => if ds.length = n then gs ds G S else none
  | _ => none
theorem rgLst {I : List Nat} {t : Expr} {n : Nat} {gs : DGs} (h : PG X t (gLst X.K n (gsD X.K T I gs))) : PG X t (gD X.K T I (dgLst n gs)) := by
  refine pgImp h fun v σ H Q ⟨Z, d, G, S, m, G', S', ok, en, r, f, q⟩ => ?_
  unfold dgLst at f
  split at f
  · split at f
    · rename_i hn
      cases r with
      | lst h _ _ rs => exact ⟨_, _, rfl, SqL.of h, by rw [rs.len]; exact hn, Z, _, G, S, m, G', S', ok, en, rs, f, q⟩
    · cases f
  · cases f
theorem gLst' {n : Nat} {j : Nat} (hc : X.calm = true) (h : PGs X es (gsD X.K T I gs)) (hn : (assignEach es X.env).length = n) (hst : (assignEach es X.env).findIdx? (·.1) = none) : PG X (.Tuple es j pos) (gD X.K T I (dgLst n gs)) := rgLst (pg_lst hc h hn hst)
end
end Vw
set_option maxRecDepth 100000
set_option maxHeartbeats 4000000
namespace Vk
noncomputable section
open PySem PySem.Spec PyProof.Rows L2 Vw
def topS (i : Nat) : Stmt := PySem.Challenge.pw_bowstands_k63_whole_hurdles.main.body.getD i (.Pass ⟨0, 0, 0, 0⟩)
abbrev s_iswhole : Stmt := topS 5
theorem sc_iswhole : FnScope ["value"] ["value"] (defScope s_iswhole) := ⟨rfl, rfl, rfl, by decide +kernel, rfl, by decide +kernel, by decide +kernel⟩
def d_iswhole : DS :=
    (dSeq (dRet (dAndV (dIsi "int" (dVar 0)) (dNotV (dIsi "bool" (dVar 0)))))
    dSkip)
def fn_iswhole : DF := dDef 1 d_iswhole
theorem ok_iswhole {P : Program} {w : World} {K : PySem.W.Frag} {mg : Str → Option Value} {base : Heap} {T : List Addr} (m_bool : mg "bool" = none) (m_int : mg "int" = none) (m_isinstance : mg "isinstance" = none) {f : Addr} (cdv : Value) (A : Around) (outer : List Env) (s : Shared) (H : Hp) (E : XK) (hA : Clr A) (hR : Room 0 (A.deeper (envOfC "is_whole" (defScope s_iswhole) s.heap.objs.size f cdv))) :
    PSs (cxOf (L2.CX P w) P w K mg base ["value"] "is_whole" (defScope s_iswhole) f cdv A outer s H E) (defBody s_iswhole) (sD K T d_iswhole) := by
  have Ft : Fit (cxOf (L2.CX P w) P w K mg base ["value"] "is_whole" (defScope s_iswhole) f cdv A outer s H E) 0 := fit_cx sc_iswhole hA hR
  exact (rSeq (rRet (rAndV (eIsi "int" (eName 0 rfl (.inl rfl)) m_isinstance rfl m_int rfl (by decide +kernel) (by decide) (by decide)) (pe_one (rNotV (eIsi "bool" (eName 0 rfl (.inl rfl)) m_isinstance rfl m_bool rfl (by decide +kernel) (by decide) (by decide))))))
    rSkip)
abbrev s_ishand : Stmt := topS 6
theorem sc_ishand : FnScope ["value", "many"] ["value", "many"] (defScope s_ishand) := ⟨rfl, rfl, rfl, by decide +kernel, rfl, by decide +kernel, by decide +kernel⟩
def d_ishand : DS :=
    (dSeq (dRet (dAndV (dCallF 1 (dCons (dVar 0) dNil) fn_iswhole) (dChain (opCmp fun i j => decide (i ≤ j)) (opCmp fun i j => decide (i < j)) (dCon (.int 0)) (dVar 0) (dVar 1))))
    dSkip)
def fn_ishand : DF := dDef 2 d_ishand
theorem ok_ishand {P : Program} {w : World} {K : PySem.W.Frag} {mg : Str → Option Value} {base : Heap} {T : List Addr} (C_iswhole : Cal P w K mg base T 1 "is_whole" s_iswhole ["value"] fn_iswhole) {f : Addr} (cdv : Value) (A : Around) (outer : List Env) (s : Shared) (H : Hp) (E : XK) (hA : Clr A) (hR : Room 1 (A.deeper (envOfC "is_hand" (defScope s_ishand) s.heap.objs.size f cdv))) :
    PSs (cxOf (L2.CX P w) P w K mg base ["value", "many"] "is_hand" (defScope s_ishand) f cdv A outer s H E) (defBody s_ishand) (sD K T d_ishand) := by
  have Ft : Fit (cxOf (L2.CX P w) P w K mg base ["value", "many"] "is_hand" (defScope s_ishand) f cdv A outer s H E) 1 := fit_cx sc_ishand hA hR
  exact (rSeq (rRet (rAndV (eCal C_iswhole Ft (by decide) rfl (rCons (eName 0 rfl (.inl rfl)) rNil rfl)) (pe_one (eChain op_le op_lt rule_cmp rule_cmp eInt (eName 0 rfl (.inl rfl)) (eName 1 rfl (.inl rfl)) rfl))))
    rSkip)
abbrev s_isrow : Stmt := topS 12
theorem sc_isrow : FnScope ["row", "hand", "many", "others", "word"] ["row", "hand", "many"] (defScope s_isrow) := ⟨rfl, rfl, rfl, by decide +kernel, rfl, by decide +kernel, by decide +kernel⟩
def d_isrow : DS :=
    (dSeq (dIte (dOr (dNot (dTst (dIsi "tuple" (dVar 0)))) (dCmpT (opEq true) (dCall opLen (dCons (dVar 0) dNil)) (dVar 2)))
    (dSeq (dRet (dCon (.bl false)))
    dSkip) dSkip)
    (dSeq (dAsg (dBin (opAdd false) (dSlG false (dVar 0) doNone (doSome (dVar 1))) (dSlG false (dVar 0) (doSome (dBin (opAdd false) (dVar 1) (dCon (.int 1)))) doNone)) (dgName 3))
    (dSeq (dRet (dAndV (dBin (opEq false) (dBin opIx (dVar 0) (dVar 1)) (dCon (.str ("-" : Str)))) (dCall opAll (dCons (dLc false [4] (dSeqI (dVar 3)) (dgName 4) dYes (dBin (opIn false) (dVar 4) (dCon (.tup [.str ("stand" : Str), .str ("bow" : Str), .str ("even" : Str), .str ("pass" : Str), .str ("slip" : Str)])))) dNil))))
    dSkip)))
def fn_isrow : DF := dDef 5 d_isrow
theorem ok_isrow {P : Program} {w : World} {K : PySem.W.Frag} {mg : Str → Option Value} {base : Heap} {T : List Addr} (m_all : mg "all" = none) (m_isinstance : mg "isinstance" = none) (m_len : mg "len" = none) (m_tuple : mg "tuple" = none) {gP_WORDS : Addr} {go_WORDS : Option Addr} {gi_WORDS : Array Value} {gn_WORDS : Nat} {gl_WORDS : Array (Option Value)} {gv_WORDS : List V} (g_WORDS : mg "WORDS" = some (.ref gP_WORDS)) (gk_WORDS : K.lookup gP_WORDS = some ⟨.type "tuple", go_WORDS, .seq gi_WORDS gn_WORDS, gl_WORDS⟩) (gs_WORDS : gi_WORDS.size ≤ sizeLine) (gf_WORDS : flatVs gi_WORDS.toList = some (gv_WORDS, [.str ("stand" : Str), .str ("bow" : Str), .str ("even" : Str), .str ("pass" : Str), .str ("slip" : Str)])) {f : Addr} (cdv : Value) (A : Around) (outer : List Env) (s : Shared) (H : Hp) (E : XK) (hA : Clr A) (hR : Room 0 (A.deeper (envOfC "_is_row" (defScope s_isrow) s.heap.objs.size f cdv))) :
    PSs (cxOf (L2.CX P w) P w K mg base ["row", "hand", "many", "others", "word"] "_is_row" (defScope s_isrow) f cdv A outer s H E) (defBody s_isrow) (sD K T d_isrow) := by
  have Ft : Fit (cxOf (L2.CX P w) P w K mg base ["row", "hand", "many", "others", "word"] "_is_row" (defScope s_isrow) f cdv A outer s H E) 0 := fit_cx sc_isrow hA hR
  exact (rSeq (rIte (PW.pt (wOr (rNot (tVal (eIsi "tuple" (eName 0 rfl (.inl rfl)) m_isinstance rfl m_tuple rfl (by decide +kernel) (by decide) (by decide)) (by intro _; rfl))) (wOr1 (tNe Ft (eLen m_len rfl (rCons (eName 0 rfl (.inl rfl)) rNil rfl)) (eName 2 rfl (.inl rfl))))))
    (rSeq (rRet eBl)
    rSkip) rSkip)
    (rSeq (sSet 3 Ft.nd rfl (.inl rfl) (eAdd false (rSlG (c := false) (eName 0 rfl (.inl rfl)) roNone (roSome (eName 1 rfl (.inl rfl)))) (rSlG (c := false) (eName 0 rfl (.inl rfl)) (roSome (eAdd false (eName 1 rfl (.inl rfl)) eInt)) roNone)) rfl (.inl rfl))
    (rSeq (rRet (rAndV (eEq Ft (eIx Ft (eName 0 rfl (.inl rfl)) (eName 1 rfl (.inl rfl)) (fun _ _ => rfl)) eStr) (pe_one (eAll Ft m_all rfl (rCons (rLc (c := false) Ft.calm Ft.nd (iSeq (eName 3 rfl (.inl rfl))) (own := [("word", 4)]) (blk_by (by exact rfl)) (fun _ _ _ _ _ => (gName' 4 (by decide) (fit_blk Ft _ _ _ _ _).nd rfl (.inl rfl) (.inr rfl))) (fun _ _ _ _ _ => rtNil) (fun _ _ _ _ _ => (eIn (fit_blk Ft _ _ _ _ _) (eName 4 rfl (.inl rfl)) (eGTup g_WORDS rfl gk_WORDS gs_WORDS gf_WORDS (by decide)) rfl))) rNil rfl)))))
    rSkip)))
abbrev s_tableerror : Stmt := topS 11
theorem sc_tableerror : FnScope ["table", "many", "hand", "one", "other"] ["table"] (defScope s_tableerror) := ⟨rfl, rfl, rfl, by decide +kernel, rfl, by decide +kernel, by decide +kernel⟩
def d_tableerror : DS :=
    (dSeq (dAsg (dCall opLen (dCons (dVar 0) dNil)) (dgName 1))
    (dSeq (dFor (dRng1 (dCons (dVar 1) dNil)) (dgName 2)
    (dSeq (dIte (dNot (dTst (dCallF 3 (dCons (dBin opIx (dVar 0) (dVar 2)) (dCons (dVar 2) (dCons (dVar 1) dNil))) fn_isrow)))
    (dSeq (dRet (dTup (dCons (dCon (.str ("row" : Str))) (dCons (dVar 2) dNil))))
    dSkip) dSkip)
    dSkip))
    (dSeq (dFor (dRng1 (dCons (dVar 1) dNil)) (dgName 3)
    (dSeq (dFor (dRng2 (dCons (dBin (opAdd false) (dVar 3) (dCon (.int 1))) (dCons (dVar 1) dNil))) (dgName 4)
    (dSeq (dIte (dCmpT (opEq true) (dBin (opEq false) (dBin opIx (dBin opIx (dVar 0) (dVar 3)) (dVar 4)) (dCon (.str ("even" : Str)))) (dBin (opEq false) (dBin opIx (dBin opIx (dVar 0) (dVar 4)) (dVar 3)) (dCon (.str ("even" : Str)))))
    (dSeq (dRet (dTup (dCons (dCon (.str ("even" : Str))) (dCons (dVar 3) (dCons (dVar 4) dNil)))))
    dSkip) dSkip)
    dSkip))
    dSkip))
    (dSeq (dRet (dCon .non))
    dSkip))))
def fn_tableerror : DF := dDef 5 d_tableerror
theorem ok_tableerror {P : Program} {w : World} {K : PySem.W.Frag} {mg : Str → Option Value} {base : Heap} {T : List Addr} (m_len : mg "len" = none) (m_range : mg "range" = none) (C_isrow : Cal P w K mg base T 1 "_is_row" s_isrow ["row", "hand", "many"] fn_isrow) {f : Addr} (cdv : Value) (A : Around) (outer : List Env) (s : Shared) (H : Hp) (E : XK) (hA : Clr A) (hR : Room 1 (A.deeper (envOfC "_table_error" (defScope s_tableerror) s.heap.objs.size f cdv))) :
    PSs (cxOf (L2.CX P w) P w K mg base ["table", "many", "hand", "one", "other"] "_table_error" (defScope s_tableerror) f cdv A outer s H E) (defBody s_tableerror) (sD K T d_tableerror) := by
  have Ft : Fit (cxOf (L2.CX P w) P w K mg base ["table", "many", "hand", "one", "other"] "_table_error" (defScope s_tableerror) f cdv A outer s H E) 1 := fit_cx sc_tableerror hA hR
  exact (rSeq (sSet 1 Ft.nd rfl (.inl rfl) (eLen m_len rfl (rCons (eName 0 rfl (.inl rfl)) rNil rfl)) rfl (.inl rfl))
    (rSeq (sFor (I := [2]) (passes_of rfl) rfl (iRng1' m_range rfl (rCons (eName 1 rfl (.inl rfl)) rNil rfl) rfl) (gName' 2 (by decide) Ft.nd rfl (.inl rfl) (.inr rfl))
    (rSeq (rIte (rNot (tVal (eCal C_isrow Ft (by decide) rfl (rCons (eIx Ft (eName 0 rfl (.inl rfl)) (eName 2 rfl (.inl rfl)) (fun _ _ => rfl)) (rCons (eName 2 rfl (.inl rfl)) (rCons (eName 1 rfl (.inl rfl)) rNil rfl) rfl) rfl)) (by intro _; rfl)))
    (rSeq (rRet (rTup (rCons eStr (rCons (eName 2 rfl (.inl rfl)) rNil rfl) rfl)))
    rSkip) rSkip)
    rSkip) (fun _ => rfl))
    (rSeq (sFor (I := [3]) (passes_of rfl) rfl (iRng1' m_range rfl (rCons (eName 1 rfl (.inl rfl)) rNil rfl) rfl) (gName' 3 (by decide) Ft.nd rfl (.inl rfl) (.inr rfl))
    (rSeq (sFor (I := [4]) (passes_of rfl) rfl (iRng2' m_range rfl (rCons (eAdd false (eName 3 rfl (.inl rfl)) eInt) (rCons (eName 1 rfl (.inl rfl)) rNil rfl) rfl) rfl rfl) (gName' 4 (by decide) Ft.nd rfl (.inl rfl) (.inr rfl))
    (rSeq (rIte (tNe Ft (eEq Ft (eIx Ft (eIx Ft (eName 0 rfl (.inl rfl)) (eName 3 rfl (.inl rfl)) (fun _ _ => rfl)) (eName 4 rfl (.inl rfl)) (fun _ _ => rfl)) eStr) (eEq Ft (eIx Ft (eIx Ft (eName 0 rfl (.inl rfl)) (eName 4 rfl (.inl rfl)) (fun _ _ => rfl)) (eName 3 rfl (.inl rfl)) (fun _ _ => rfl)) eStr))
    (rSeq (rRet (rTup (rCons eStr (rCons (eName 3 rfl (.inl rfl)) (rCons (eName 4 rfl (.inl rfl)) rNil rfl) rfl) rfl)))
    rSkip) rSkip)
    rSkip) (fun _ => rfl))
    rSkip) (fun _ => rfl))
    (rSeq (rRet eNon)
    rSkip))))
abbrev s_isform : Stmt := topS 10
theorem sc_isform : FnScope ["value", "part"] ["value"] (defScope s_isform) := ⟨rfl, rfl, rfl, by decide +kernel, rfl, by decide +kernel, by decide +kernel⟩
def d_isform : DS :=
    (dSeq (dIte (dOr (dNot (dTst (dIsi "tuple" (dVar 0)))) (dCmpT (opEq true) (dCall opLen (dCons (dVar 0) dNil)) (dCon (.int 3))))
    (dSeq (dRet (dCon (.bl false)))
    dSkip) dSkip)
    (dSeq (dRet (dCall opAll (dCons (dLc false [1] (dSeqI (dVar 0)) (dgName 1) dYes (dIsi "tuple" (dVar 1))) dNil)))
    dSkip))
def fn_isform : DF := dDef 2 d_isform
theorem ok_isform {P : Program} {w : World} {K : PySem.W.Frag} {mg : Str → Option Value} {base : Heap} {T : List Addr} (m_all : mg "all" = none) (m_isinstance : mg "isinstance" = none) (m_len : mg "len" = none) (m_tuple : mg "tuple" = none) {f : Addr} (cdv : Value) (A : Around) (outer : List Env) (s : Shared) (H : Hp) (E : XK) (hA : Clr A) (hR : Room 0 (A.deeper (envOfC "_is_form" (defScope s_isform) s.heap.objs.size f cdv))) :
    PSs (cxOf (L2.CX P w) P w K mg base ["value", "part"] "_is_form" (defScope s_isform) f cdv A outer s H E) (defBody s_isform) (sD K T d_isform) := by
  have Ft : Fit (cxOf (L2.CX P w) P w K mg base ["value", "part"] "_is_form" (defScope s_isform) f cdv A outer s H E) 0 := fit_cx sc_isform hA hR
  exact (rSeq (rIte (PW.pt (wOr (rNot (tVal (eIsi "tuple" (eName 0 rfl (.inl rfl)) m_isinstance rfl m_tuple rfl (by decide +kernel) (by decide) (by decide)) (by intro _; rfl))) (wOr1 (tNe Ft (eLen m_len rfl (rCons (eName 0 rfl (.inl rfl)) rNil rfl)) eInt))))
    (rSeq (rRet eBl)
    rSkip) rSkip)
    (rSeq (rRet (eAll Ft m_all rfl (rCons (rLc (c := false) Ft.calm Ft.nd (iSeq (eName 0 rfl (.inl rfl))) (own := [("part", 1)]) (blk_by (by exact rfl)) (fun _ _ _ _ _ => (gName' 1 (by decide) (fit_blk Ft _ _ _ _ _).nd rfl (.inl rfl) (.inr rfl))) (fun _ _ _ _ _ => rtNil) (fun _ _ _ _ _ => (eIsi "tuple" (eName 1 rfl (.inl rfl)) m_isinstance rfl m_tuple rfl (by decide +kernel) (by decide) (by decide)))) rNil rfl)))
    rSkip))
abbrev s_isearly : Stmt := topS 14
theorem sc_isearly : FnScope ["early", "many", "hand", "place"] ["early", "many"] (defScope s_isearly) := ⟨rfl, rfl, rfl, by decide +kernel, rfl, by decide +kernel, by decide +kernel⟩
def d_isearly : DS :=
    (dSeq (dIte (dNot (dTst (dCall opAll (dCons (dLc false [2] (dSeqI (dVar 0)) (dgName 2) dYes (dCallF 2 (dCons (dVar 2) (dCons (dVar 1) dNil)) fn_ishand)) dNil))))
    (dSeq (dRet (dCon (.bl false)))
    dSkip) dSkip)
    (dSeq (dRet (dCall opAll (dCons (dLc false [3] (dRng1 (dCons (dBin opSub (dCall opLen (dCons (dVar 0) dNil)) (dCon (.int 1))) dNil)) (dgName 3) dYes (dBin (opCmp fun i j => decide (i < j)) (dBin opIx (dVar 0) (dVar 3)) (dBin opIx (dVar 0) (dBin (opAdd false) (dVar 3) (dCon (.int 1)))))) dNil)))
    dSkip))
def fn_isearly : DF := dDef 4 d_isearly
theorem ok_isearly {P : Program} {w : World} {K : PySem.W.Frag} {mg : Str → Option Value} {base : Heap} {T : List Addr} (m_all : mg "all" = none) (m_len : mg "len" = none) (m_range : mg "range" = none) (C_ishand : Cal P w K mg base T 2 "is_hand" s_ishand ["value", "many"] fn_ishand) {f : Addr} (cdv : Value) (A : Around) (outer : List Env) (s : Shared) (H : Hp) (E : XK) (hA : Clr A) (hR : Room 2 (A.deeper (envOfC "_is_early" (defScope s_isearly) s.heap.objs.size f cdv))) :
    PSs (cxOf (L2.CX P w) P w K mg base ["early", "many", "hand", "place"] "_is_early" (defScope s_isearly) f cdv A outer s H E) (defBody s_isearly) (sD K T d_isearly) := by
  have Ft : Fit (cxOf (L2.CX P w) P w K mg base ["early", "many", "hand", "place"] "_is_early" (defScope s_isearly) f cdv A outer s H E) 2 := fit_cx sc_isearly hA hR
  exact (rSeq (rIte (rNot (tVal (eAll Ft m_all rfl (rCons (rLc (c := false) Ft.calm Ft.nd (iSeq (eName 0 rfl (.inr (.inl rfl)))) (own := [("hand", 2)]) (blk_by (by exact rfl)) (fun _ _ _ _ _ => (gName' 2 (by decide) (fit_blk Ft _ _ _ _ _).nd rfl (.inl rfl) (.inr rfl))) (fun _ _ _ _ _ => rtNil) (fun _ _ _ _ _ => (eCal C_ishand (fit_blk Ft _ _ _ _ _) (by decide) rfl (rCons (eName 2 rfl (.inl rfl)) (rCons (eName 1 rfl (.inr (.inl rfl))) rNil rfl) rfl)))) rNil rfl)) (by intro _; rfl)))
    (rSeq (rRet eBl)
    rSkip) rSkip)
    (rSeq (rRet (eAll Ft m_all rfl (rCons (rLc (c := false) Ft.calm Ft.nd (iRng1' m_range rfl (rCons (eSub (eLen m_len rfl (rCons (eName 0 rfl (.inr (.inl rfl))) rNil rfl)) eInt) rNil rfl) rfl) (own := [("place", 3)]) (blk_by (by exact rfl)) (fun _ _ _ _ _ => (gName' 3 (by decide) (fit_blk Ft _ _ _ _ _).nd rfl (.inl rfl) (.inr rfl))) (fun _ _ _ _ _ => rtNil) (fun _ _ _ _ _ => (eLt (eIx (fit_blk Ft _ _ _ _ _) (eName 0 rfl (.inr (.inl rfl))) (eName 3 rfl (.inl rfl)) (fun _ _ => rfl)) (eIx (fit_blk Ft _ _ _ _ _) (eName 0 rfl (.inr (.inl rfl))) (eAdd false (eName 3 rfl (.inl rfl)) eInt) (fun _ _ => rfl))))) rNil rfl)))
    rSkip))
abbrev s_othersof : Stmt := topS 15
theorem sc_othersof : FnScope ["hand", "many", "other"] ["hand", "many"] (defScope s_othersof) := ⟨rfl, rfl, rfl, by decide +kernel, rfl, by decide +kernel, by decide +kernel⟩
def d_othersof : DS :=
    (dSeq (dRet (dLc false [2] (dRng1 (dCons (dVar 1) dNil)) (dgName 2) (dCmpT (opEq true) (dVar 2) (dVar 0)) (dVar 2)))
    dSkip)
def fn_othersof : DF := dDef 3 d_othersof
theorem ok_othersof {P : Program} {w : World} {K : PySem.W.Frag} {mg : Str → Option Value} {base : Heap} {T : List Addr} (m_range : mg "range" = none) {f : Addr} (cdv : Value) (A : Around) (outer : List Env) (s : Shared) (H : Hp) (E : XK) (hA : Clr A) (hR : Room 0 (A.deeper (envOfC "others_of" (defScope s_othersof) s.heap.objs.size f cdv))) :
    PSs (cxOf (L2.CX P w) P w K mg base ["hand", "many", "other"] "others_of" (defScope s_othersof) f cdv A outer s H E) (defBody s_othersof) (sD K T d_othersof) := by
  have Ft : Fit (cxOf (L2.CX P w) P w K mg base ["hand", "many", "other"] "others_of" (defScope s_othersof) f cdv A outer s H E) 0 := fit_cx sc_othersof hA hR
  exact (rSeq (rRet (rLc (c := false) Ft.calm Ft.nd (iRng1' m_range rfl (rCons (eName 1 rfl (.inl rfl)) rNil rfl) rfl) (own := [("other", 2)]) (blk_by (by exact rfl)) (fun _ _ _ _ _ => (gName' 2 (by decide) (fit_blk Ft _ _ _ _ _).nd rfl (.inl rfl) (.inr rfl))) (fun _ _ _ _ _ => (rtOne (tNe (fit_blk Ft _ _ _ _ _) (eName 2 rfl (.inl rfl)) (eName 0 rfl (.inr (.inl rfl)))))) (fun _ _ _ _ _ => (eName 2 rfl (.inl rfl)))))
    rSkip)
abbrev s_isorder : Stmt := topS 13
theorem sc_isorder : FnScope ["order", "hand", "many", "other"] ["order", "hand", "many"] (defScope s_isorder) := ⟨rfl, rfl, rfl, by decide +kernel, rfl, by decide +kernel, by decide +kernel⟩
def d_isorder : DS :=
    (dSeq (dIte (dOr (dNot (dTst (dIsi "tuple" (dVar 0)))) (dNot (dTst (dCall opAll (dCons (dLc false [3] (dSeqI (dVar 0)) (dgName 3) dYes (dCallF 2 (dCons (dVar 3) (dCons (dVar 2) dNil)) fn_ishand)) dNil)))))
    (dSeq (dRet (dCon (.bl false)))
    dSkip) dSkip)
    (dSeq (dRet (dBin (opEq false) (dCall (opSortedA false) (dCons (dVar 0) dNil)) (dCallF 2 (dCons (dVar 1) (dCons (dVar 2) dNil)) fn_othersof)))
    dSkip))
def fn_isorder : DF := dDef 4 d_isorder
theorem ok_isorder {P : Program} {w : World} {K : PySem.W.Frag} {mg : Str → Option Value} {base : Heap} {T : List Addr} (m_all : mg "all" = none) (m_isinstance : mg "isinstance" = none) (m_sorted : mg "sorted" = none) (m_tuple : mg "tuple" = none) (C_othersof : Cal P w K mg base T 1 "others_of" s_othersof ["hand", "many"] fn_othersof) (C_ishand : Cal P w K mg base T 2 "is_hand" s_ishand ["value", "many"] fn_ishand) {f : Addr} (cdv : Value) (A : Around) (outer : List Env) (s : Shared) (H : Hp) (E : XK) (hA : Clr A) (hR : Room 2 (A.deeper (envOfC "_is_order" (defScope s_isorder) s.heap.objs.size f cdv))) :
    PSs (cxOf (L2.CX P w) P w K mg base ["order", "hand", "many", "other"] "_is_order" (defScope s_isorder) f cdv A outer s H E) (defBody s_isorder) (sD K T d_isorder) := by
  have Ft : Fit (cxOf (L2.CX P w) P w K mg base ["order", "hand", "many", "other"] "_is_order" (defScope s_isorder) f cdv A outer s H E) 2 := fit_cx sc_isorder hA hR
  exact (rSeq (rIte (PW.pt (wOr (rNot (tVal (eIsi "tuple" (eName 0 rfl (.inl rfl)) m_isinstance rfl m_tuple rfl (by decide +kernel) (by decide) (by decide)) (by intro _; rfl))) (wOr1 (rNot (tVal (eAll Ft m_all rfl (rCons (rLc (c := false) Ft.calm Ft.nd (iSeq (eName 0 rfl (.inl rfl))) (own := [("other", 3)]) (blk_by (by exact rfl)) (fun _ _ _ _ _ => (gName' 3 (by decide) (fit_blk Ft _ _ _ _ _).nd rfl (.inl rfl) (.inr rfl))) (fun _ _ _ _ _ => rtNil) (fun _ _ _ _ _ => (eCal C_ishand (fit_blk Ft _ _ _ _ _) (by decide) rfl (rCons (eName 3 rfl (.inl rfl)) (rCons (eName 2 rfl (.inr (.inl rfl))) rNil rfl) rfl)))) rNil rfl)) (by intro _; rfl))))))
    (rSeq (rRet eBl)
    rSkip) rSkip)
    (rSeq (rRet (eEq Ft (eSortedA false m_sorted rfl (rCons (eName 0 rfl (.inl rfl)) rNil rfl)) (eCal C_othersof Ft (by decide) rfl (rCons (eName 1 rfl (.inl rfl)) (rCons (eName 2 rfl (.inr (.inl rfl))) rNil rfl) rfl))))
    rSkip))
abbrev s_mannerserror : Stmt := topS 9
theorem sc_mannerserror : FnScope ["value", "table", "orders", "early", "many", "wrong", "hand"] ["value"] (defScope s_mannerserror) := ⟨rfl, rfl, rfl, by decide +kernel, rfl, by decide +kernel, by decide +kernel⟩
def d_mannerserror : DS :=
    (dSeq (dIte (dNot (dTst (dCallF 1 (dCons (dVar 0) dNil) fn_isform)))
    (dSeq (dRet (dCon (.str ("form" : Str))))
    dSkip) dSkip)
    (dSeq (dAsg (dVar 0) (dgTup 3 (dgCons (dgName 1) (dgCons (dgName 2) (dgCons (dgName 3) dgNil)))))
    (dSeq (dAsg (dCall opLen (dCons (dVar 1) dNil)) (dgName 4))
    (dSeq (dIte (dNot (dTst (dChain (opCmp fun i j => decide (i ≤ j)) (opCmp fun i j => decide (i ≤ j)) (dCon (.int 2)) (dVar 4) (dCon (.int 6)))))
    (dSeq (dRet (dCon (.str ("hands" : Str))))
    dSkip) dSkip)
    (dSeq (dAsg (dCallF 1 (dCons (dVar 1) dNil) fn_tableerror) (dgName 5))
    (dSeq (dIte (dCmpT (opIsN true) (dVar 5) (dCon .non))
    (dSeq (dRet (dVar 5))
    dSkip) dSkip)
    (dSeq (dIte (dCmpT (opEq true) (dCall opLen (dCons (dVar 2) dNil)) (dVar 4))
    (dSeq (dRet (dCon (.str ("orders" : Str))))
    dSkip) dSkip)
    (dSeq (dFor (dRng1 (dCons (dVar 4) dNil)) (dgName 6)
    (dSeq (dIte (dNot (dTst (dCallF 3 (dCons (dBin opIx (dVar 2) (dVar 6)) (dCons (dVar 6) (dCons (dVar 4) dNil))) fn_isorder)))
    (dSeq (dRet (dTup (dCons (dCon (.str ("order" : Str))) (dCons (dVar 6) dNil))))
    dSkip) dSkip)
    dSkip))
    (dSeq (dIte (dNot (dTst (dCallF 2 (dCons (dVar 3) (dCons (dVar 4) dNil)) fn_isearly)))
    (dSeq (dRet (dCon (.str ("early" : Str))))
    dSkip) dSkip)
    (dSeq (dRet (dCon .non))
    dSkip))))))))))
def fn_mannerserror : DF := dDef 7 d_mannerserror
theorem ok_mannerserror {P : Program} {w : World} {K : PySem.W.Frag} {mg : Str → Option Value} {base : Heap} {T : List Addr} (m_len : mg "len" = none) (m_range : mg "range" = none) {gt_MAX_HANDS : Tok} (g_MAX_HANDS : mg "MAX_HANDS" = some (.int 6 gt_MAX_HANDS)) (C_isearly : Cal P w K mg base T 3 "_is_early" s_isearly ["early", "many"] fn_isearly) (C_isorder : Cal P w K mg base T 3 "_is_order" s_isorder ["order", "hand", "many"] fn_isorder) (C_tableerror : Cal P w K mg base T 2 "_table_error" s_tableerror ["table"] fn_tableerror) (C_isform : Cal P w K mg base T 1 "_is_form" s_isform ["value"] fn_isform) {f : Addr} (cdv : Value) (A : Around) (outer : List Env) (s : Shared) (H : Hp) (E : XK) (hA : Clr A) (hR : Room 3 (A.deeper (envOfC "manners_error" (defScope s_mannerserror) s.heap.objs.size f cdv))) :
    PSs (cxOf (L2.CX P w) P w K mg base ["value", "table", "orders", "early", "many", "wrong", "hand"] "manners_error" (defScope s_mannerserror) f cdv A outer s H E) (defBody s_mannerserror) (sD K T d_mannerserror) := by
  have Ft : Fit (cxOf (L2.CX P w) P w K mg base ["value", "table", "orders", "early", "many", "wrong", "hand"] "manners_error" (defScope s_mannerserror) f cdv A outer s H E) 3 := fit_cx sc_mannerserror hA hR
  exact (rSeq (rIte (rNot (tVal (eCal C_isform Ft (by decide) rfl (rCons (eName 0 rfl (.inl rfl)) rNil rfl)) (by intro _; rfl)))
    (rSeq (rRet eStr)
    rSkip) rSkip)
    (rSeq (sAsg (I := [1, 2, 3]) (eName 0 rfl (.inl rfl)) (gTup' Ft.calm (rgCons (gName' 1 (by decide) Ft.nd rfl (.inl rfl) (.inr rfl)) (rgCons (gName' 2 (by decide) Ft.nd rfl (.inl rfl) (.inr rfl)) (rgCons (gName' 3 (by decide) Ft.nd rfl (.inl rfl) (.inr rfl)) rgNil rfl) rfl) rfl) rfl rfl) rfl rfl rfl)
    (rSeq (sSet 4 Ft.nd rfl (.inl rfl) (eLen m_len rfl (rCons (eName 1 rfl (.inl rfl)) rNil rfl)) rfl (.inl rfl))
    (rSeq (rIte (rNot (tChain2 op_le op_le rule_cmp rule_cmp eInt (eName 4 rfl (.inl rfl)) (eGInt g_MAX_HANDS rfl (by decide)) rfl))
    (rSeq (rRet eStr)
    rSkip) rSkip)
    (rSeq (sSet 5 Ft.nd rfl (.inl rfl) (eCal C_tableerror Ft (by decide) rfl (rCons (eName 1 rfl (.inl rfl)) rNil rfl)) rfl (.inl rfl))
    (rSeq (rIte (tIsNot (eName 5 rfl (.inl rfl)) eNon)
    (rSeq (rRet (eName 5 rfl (.inl rfl)))
    rSkip) rSkip)
    (rSeq (rIte (tNe Ft (eLen m_len rfl (rCons (eName 2 rfl (.inl rfl)) rNil rfl)) (eName 4 rfl (.inl rfl)))
    (rSeq (rRet eStr)
    rSkip) rSkip)
    (rSeq (sFor (I := [6]) (passes_of rfl) rfl (iRng1' m_range rfl (rCons (eName 4 rfl (.inl rfl)) rNil rfl) rfl) (gName' 6 (by decide) Ft.nd rfl (.inl rfl) (.inr rfl))
    (rSeq (rIte (rNot (tVal (eCal C_isorder Ft (by decide) rfl (rCons (eIx Ft (eName 2 rfl (.inl rfl)) (eName 6 rfl (.inl rfl)) (fun _ _ => rfl)) (rCons (eName 6 rfl (.inl rfl)) (rCons (eName 4 rfl (.inl rfl)) rNil rfl) rfl) rfl)) (by intro _; rfl)))
    (rSeq (rRet (rTup (rCons eStr (rCons (eName 6 rfl (.inl rfl)) rNil rfl) rfl)))
    rSkip) rSkip)
    rSkip) (fun _ => rfl))
    (rSeq (rIte (rNot (tVal (eCal C_isearly Ft (by decide) rfl (rCons (eName 3 rfl (.inl rfl)) (rCons (eName 4 rfl (.inl rfl)) rNil rfl) rfl)) (by intro _; rfl)))
    (rSeq (rRet eStr)
    rSkip) rSkip)
    (rSeq (rRet eNon)
    rSkip))))))))))
abbrev s_risingorders : Stmt := topS 16
theorem sc_risingorders : FnScope ["many"] ["many"] (defScope s_risingorders) := ⟨rfl, rfl, rfl, by decide +kernel, rfl, by decide +kernel, by decide +kernel⟩
def d_risingorders : DS :=
    (dSeq (dRet (dGen [none, some 0] (dRng1 (dCons (dVar 0) dNil)) (dgName 0) dYes (emElt (dCall opTuple (dCons (dCallF 2 (dCons (dVar 0) (dCons (dVar 1) dNil)) fn_othersof) dNil)))))
    dSkip)
def fn_risingorders : DF := dDef 1 d_risingorders
theorem ok_risingorders {P : Program} {w : World} {K : PySem.W.Frag} {mg : Str → Option Value} {base : Heap} {T : List Addr} (m_range : mg "range" = none) (m_tuple : mg "tuple" = none) (C_othersof : Cal P w K mg base T 1 "others_of" s_othersof ["hand", "many"] fn_othersof) {c0 P0 : Addr} (tbP : GxR.TabB base mg c0 P0) (inP : P0 ∈ T) {f : Addr} (cdv : Value) (A : Around) (outer : List Env) (s : Shared) (H : Hp) (E : XK) (hcode : cdv = .ref c0) (hA : Clr A) (hR : Room 6 (A.deeper (envOfC "rising_orders" (defScope s_risingorders) s.heap.objs.size f cdv))) :
    PSs (cxOf (L2.CX P w) P w K mg base ["many"] "rising_orders" (defScope s_risingorders) f cdv A outer s H E) (defBody s_risingorders) (sD K T d_risingorders) := by
  have Ft : Fit (cxOf (L2.CX P w) P w K mg base ["many"] "rising_orders" (defScope s_risingorders) f cdv A outer s H E) 6 := fit_cx sc_risingorders hA hR
  exact (rSeq (rRet (rGenTup (k := 6 - 5) (Ng := ["hand", "many"]) (js := [none, some 0]) (I := [0]) (Ft.mono (by decide)).room Ft.clr rfl m_tuple (by decide +kernel) inP tbP hcode (gen_by (by exact rfl)) (fun _ => rfl) (iRng1' m_range rfl (rCons (eName 0 rfl (.inr (.inl rfl))) rNil rfl) rfl) (fun A0 sb Hb fp pn cl C0 code hr0 hc0 => ⟨_, cl1, by exact (gName' 0 (by decide) (fit_gex  (by decide +kernel) hr0 hc0).nd rfl (.inl rfl) (.inr rfl)), by exact rtNil, by exact (rEmElt rfl rfl (eTupOf m_tuple rfl (rCons (eCal C_othersof (fit_gex  (by decide +kernel) hr0 hc0) (by decide) rfl (rCons (eName 0 rfl (.inl rfl)) (rCons (eName 1 rfl (.inr (.inr rfl))) rNil rfl) rfl)) rNil rfl)))⟩)))
    rSkip)
abbrev s_evenpairs : Stmt := topS 17
theorem sc_evenpairs : FnScope ["manners", "table", "many"] ["manners"] (defScope s_evenpairs) := ⟨rfl, rfl, rfl, by decide +kernel, rfl, by decide +kernel, by decide +kernel⟩
def d_evenpairs : DS :=
    (dSeq (dAsg (dBin opIx (dVar 0) (dCon (.int 0))) (dgName 1))
    (dSeq (dAsg (dCall opLen (dCons (dVar 1) dNil)) (dgName 2))
    (dSeq (dRet (dGen [none, none, some 2, some 1] (dRng1 (dCons (dVar 2) dNil)) (dgName 0) dYes (emCl (dRng2 (dCons (dBin (opAdd false) (dVar 0) (dCon (.int 1))) (dCons (dVar 2) dNil))) (dgName 1) (dCmpT (opEq false) (dBin opIx (dBin opIx (dVar 3) (dVar 0)) (dVar 1)) (dCon (.str ("even" : Str)))) (emElt (dTup (dCons (dVar 0) (dCons (dVar 1) dNil)))))))
    dSkip)))
def fn_evenpairs : DF := dDef 3 d_evenpairs
theorem ok_evenpairs {P : Program} {w : World} {K : PySem.W.Frag} {mg : Str → Option Value} {base : Heap} {T : List Addr} (m_len : mg "len" = none) (m_range : mg "range" = none) (m_tuple : mg "tuple" = none) {c0 P0 : Addr} (tbP : GxR.TabB base mg c0 P0) (inP : P0 ∈ T) {f : Addr} (cdv : Value) (A : Around) (outer : List Env) (s : Shared) (H : Hp) (E : XK) (hcode : cdv = .ref c0) (hA : Clr A) (hR : Room 5 (A.deeper (envOfC "even_pairs" (defScope s_evenpairs) s.heap.objs.size f cdv))) :
    PSs (cxOf (L2.CX P w) P w K mg base ["manners", "table", "many"] "even_pairs" (defScope s_evenpairs) f cdv A outer s H E) (defBody s_evenpairs) (sD K T d_evenpairs) := by
  have Ft : Fit (cxOf (L2.CX P w) P w K mg base ["manners", "table", "many"] "even_pairs" (defScope s_evenpairs) f cdv A outer s H E) 5 := fit_cx sc_evenpairs hA hR
  exact (rSeq (sSet 1 Ft.nd rfl (.inr rfl) (eIx Ft (eName 0 rfl (.inl rfl)) eInt (fun _ _ => rfl)) rfl (.inl rfl))
    (rSeq (sSet 2 Ft.nd rfl (.inr rfl) (eLen m_len rfl (rCons (eName 1 rfl (.inr (.inl rfl))) rNil rfl)) rfl (.inl rfl))
    (rSeq (rRet (rGenTup (k := 5 - 5) (Ng := ["i", "j", "many", "table"]) (js := [none, none, some 2, some 1]) (I := [0, 1]) (Ft.mono (by decide)).room Ft.clr rfl m_tuple (by decide +kernel) inP tbP hcode (gen_by (by exact rfl)) (fun _ => rfl) (iRng1' m_range rfl (rCons (eName 2 rfl (.inr (.inl rfl))) rNil rfl) rfl) (fun A0 sb Hb fp pn cl C0 code hr0 hc0 => ⟨_, cl2o, by exact (gName' 0 (by decide) (fit_gex  (by decide +kernel) hr0 hc0).nd rfl (.inl rfl) (.inr rfl)), by exact rtNil, by exact (rEmCl rfl rfl cl2i (fun _ => rfl) in2 (by exact (iRng2' m_range rfl (rCons (eAdd false (eName 0 rfl (.inl rfl)) eInt) (rCons (eName 2 rfl (.inr (.inr rfl))) rNil rfl) rfl) rfl rfl)) (by exact (gName' 1 (by decide) (fit_gex  (by decide +kernel) hr0 hc0).nd rfl (.inl rfl) (.inr rfl))) (by exact (rtOne (tEq (fit_gex  (by decide +kernel) hr0 hc0) (eIx (fit_gex  (by decide +kernel) hr0 hc0) (eIx (fit_gex  (by decide +kernel) hr0 hc0) (eName 3 rfl (.inr (.inr rfl))) (eName 0 rfl (.inl rfl)) (fun _ _ => rfl)) (eName 1 rfl (.inl rfl)) (fun _ _ => rfl)) eStr))) (by exact (rEmElt rfl rfl (rTup (rCons (eName 0 rfl (.inl rfl)) (rCons (eName 1 rfl (.inl rfl)) rNil rfl) rfl)))))⟩)))
    rSkip)))
abbrev s_ringsfrom : Stmt := topS 23
theorem sc_ringsfrom : FnScope ["followers", "path", "found", "other"] ["followers", "path"] (defScope s_ringsfrom) := ⟨rfl, rfl, rfl, by decide +kernel, rfl, by decide +kernel, by decide +kernel⟩
def d_ringsfrom (fn_ringsfrom : DF) : DS :=
    (dSeq (dAsg (dIf (dCmpT (opIn false) (dBin opIx (dVar 1) (dCon (.int 0))) (dBin opIx (dVar 0) (dBin opIx (dVar 1) (dUn opNeg (dCon (.int 1)))))) (dLst true (dCons (dVar 1) dNil)) (dLst true dNil)) (dgName 2))
    (dSeq (dFor (dSeqI (dBin opIx (dVar 0) (dBin opIx (dVar 1) (dUn opNeg (dCon (.int 1)))))) (dgName 3)
    (dSeq (dIte (dAnd (dCmpT (opCmp fun i j => decide (j < i)) (dVar 3) (dBin opIx (dVar 1) (dCon (.int 0)))) (dCmpT (opIn true) (dVar 3) (dVar 1)))
    (dSeq (dExpr (dMeth "list" opExtend (dVar 2) (dCons (dCallF 2 (dCons (dVar 0) (dCons (dBin (opAdd false) (dVar 1) (dTup (dCons (dVar 3) dNil))) dNil)) fn_ringsfrom) dNil)))
    dSkip) dSkip)
    dSkip))
    (dSeq (dRet (dVar 2))
    dSkip)))
def fN_ringsfrom : Nat → DF
  | 0 => dDef 4 dsNo
  | n + 1 => dDef 4 (d_ringsfrom (fN_ringsfrom n))
def fn_ringsfrom : DF := fN_ringsfrom 8
theorem ok_ringsfrom {P : Program} {w : World} {K : PySem.W.Frag} {mg : Str → Option Value} {base : Heap} {T : List Addr} {fn : DF} {r : Nat} (C_ringsfrom : Cal P w K mg base T r "_rings_from" s_ringsfrom ["followers", "path"] fn) {f : Addr} (cdv : Value) (A : Around) (outer : List Env) (s : Shared) (H : Hp) (E : XK) (hA : Clr A) (hR : Room r (A.deeper (envOfC "_rings_from" (defScope s_ringsfrom) s.heap.objs.size f cdv))) :
    PSs (cxOf (L2.CX P w) P w K mg base ["followers", "path", "found", "other"] "_rings_from" (defScope s_ringsfrom) f cdv A outer s H E) (defBody s_ringsfrom) (sD K T (d_ringsfrom fn)) := by
  have Ft : Fit (cxOf (L2.CX P w) P w K mg base ["followers", "path", "found", "other"] "_rings_from" (defScope s_ringsfrom) f cdv A outer s H E) r := fit_cx sc_ringsfrom hA hR
  exact (rSeq (sSet 2 Ft.nd rfl (.inl rfl) (rIf (tIn Ft (eIx Ft (eName 1 rfl (.inl rfl)) eInt (fun _ _ => rfl)) (eIx Ft (eName 0 rfl (.inl rfl)) (eIx Ft (eName 1 rfl (.inl rfl)) (eNeg eInt) (fun _ _ => rfl)) (fun _ _ => rfl)) rfl) (rLst (c := true) (rCons (eName 1 rfl (.inl rfl)) rNil rfl)) (rLst (c := true) rNil)) rfl (.inl rfl))
    (rSeq (sFor (I := [3]) (passes_of rfl) rfl (iSeq (eIx Ft (eName 0 rfl (.inl rfl)) (eIx Ft (eName 1 rfl (.inl rfl)) (eNeg eInt) (fun _ _ => rfl)) (fun _ _ => rfl))) (gName' 3 (by decide) Ft.nd rfl (.inl rfl) (.inr rfl))
    (rSeq (rIte (PW.pt (wAnd (tGt (eName 3 rfl (.inl rfl)) (eIx Ft (eName 1 rfl (.inl rfl)) eInt (fun _ _ => rfl))) (wAnd1 (tNotIn Ft (eName 3 rfl (.inl rfl)) (eName 1 rfl (.inl rfl)) rfl))))
    (rSeq (rExpr (eExtend (eName 2 rfl (.inl rfl)) (rCons (eCal C_ringsfrom Ft (Nat.le_refl _) rfl (rCons (eName 0 rfl (.inl rfl)) (rCons (eAdd false (eName 1 rfl (.inl rfl)) (rTup (rCons (eName 3 rfl (.inl rfl)) rNil rfl))) rNil rfl) rfl)) rNil rfl) rfl rfl rfl rfl rfl) rfl)
    rSkip) rSkip)
    rSkip) (fun _ => rfl))
    (rSeq (rRet (eName 2 rfl (.inl rfl)))
    rSkip)))
abbrev s_rings : Stmt := topS 22
theorem sc_rings : FnScope ["followers", "hand", "ring"] ["followers"] (defScope s_rings) := ⟨rfl, rfl, rfl, by decide +kernel, rfl, by decide +kernel, by decide +kernel⟩
def d_rings : DS :=
    (dSeq (dRet (dLc2 false [1, 2] [2] (dRng1 (dCons (dCall opLen (dCons (dVar 0) dNil)) dNil)) (dgName 1) dYes (dSeqI (dCallF 2 (dCons (dVar 0) (dCons (dTup (dCons (dVar 1) dNil)) dNil)) fn_ringsfrom)) (dgName 2) dYes (dVar 2)))
    dSkip)
def fn_rings : DF := dDef 3 d_rings
theorem ok_rings {P : Program} {w : World} {K : PySem.W.Frag} {mg : Str → Option Value} {base : Heap} {T : List Addr} (m_len : mg "len" = none) (m_range : mg "range" = none) (C_ringsfrom : Cal P w K mg base T 9 "_rings_from" s_ringsfrom ["followers", "path"] fn_ringsfrom) {f : Addr} (cdv : Value) (A : Around) (outer : List Env) (s : Shared) (H : Hp) (E : XK) (hA : Clr A) (hR : Room 9 (A.deeper (envOfC "_rings" (defScope s_rings) s.heap.objs.size f cdv))) :
    PSs (cxOf (L2.CX P w) P w K mg base ["followers", "hand", "ring"] "_rings" (defScope s_rings) f cdv A outer s H E) (defBody s_rings) (sD K T d_rings) := by
  have Ft : Fit (cxOf (L2.CX P w) P w K mg base ["followers", "hand", "ring"] "_rings" (defScope s_rings) f cdv A outer s H E) 9 := fit_cx sc_rings hA hR
  exact (rSeq (rRet (rLc2 (c := false) Ft.calm Ft.nd (iRng1' m_range rfl (rCons (eLen m_len rfl (rCons (eName 0 rfl (.inr (.inl rfl))) rNil rfl)) rNil rfl) rfl) (own := [("hand", 1), ("ring", 2)]) (vs1 := [2]) (blk_by (by exact rfl)) (by decide) (fun _ _ _ _ _ => (gName' 1 (by decide) (fit_blk Ft _ _ _ _ _).nd rfl (.inl rfl) (.inr rfl))) (fun _ _ _ _ _ => rtNil) (fun _ _ _ _ _ => (iSeq (eCal C_ringsfrom (fit_blk Ft _ _ _ _ _) (by decide) rfl (rCons (eName 0 rfl (.inr (.inl rfl))) (rCons (rTup (rCons (eName 1 rfl (.inl rfl)) rNil rfl)) rNil rfl) rfl)))) (fun _ _ _ _ _ => (gName' 2 (by decide) (fit_blk Ft _ _ _ _ _).nd rfl (.inl rfl) (.inr rfl))) (fun _ _ _ _ _ => rtNil) (fun _ _ _ _ _ => (eName 2 rfl (.inl rfl)))))
    rSkip)
abbrev s_leastring : Stmt := topS 21
theorem sc_leastring : FnScope ["followers", "rings", "ring"] ["followers"] (defScope s_leastring) := ⟨rfl, rfl, rfl, by decide +kernel, rfl, by decide +kernel, by decide +kernel⟩
def d_leastring : DS :=
    (dSeq (dAsg (dCallF 1 (dCons (dVar 0) dNil) fn_rings) (dgName 1))
    (dSeq (dRet (dIf (dTruA (dVar 1)) (dBin opIx (dCall opMinD (dCons (dLc false [2] (dSeqI (dVar 1)) (dgName 2) dYes (dTup (dCons (dCall opLen (dCons (dVar 2) dNil)) (dCons (dVar 2) dNil)))) dNil)) (dCon (.int 1))) (dCon .non)))
    dSkip))
def fn_leastring : DF := dDef 3 d_leastring
theorem ok_leastring {P : Program} {w : World} {K : PySem.W.Frag} {mg : Str → Option Value} {base : Heap} {T : List Addr} (m_len : mg "len" = none) (m_min : mg "min" = none) (C_rings : Cal P w K mg base T 10 "_rings" s_rings ["followers"] fn_rings) {f : Addr} (cdv : Value) (A : Around) (outer : List Env) (s : Shared) (H : Hp) (E : XK) (hA : Clr A) (hR : Room 10 (A.deeper (envOfC "least_ring" (defScope s_leastring) s.heap.objs.size f cdv))) :
    PSs (cxOf (L2.CX P w) P w K mg base ["followers", "rings", "ring"] "least_ring" (defScope s_leastring) f cdv A outer s H E) (defBody s_leastring) (sD K T d_leastring) := by
  have Ft : Fit (cxOf (L2.CX P w) P w K mg base ["followers", "rings", "ring"] "least_ring" (defScope s_leastring) f cdv A outer s H E) 10 := fit_cx sc_leastring hA hR
  exact (rSeq (sSet 1 Ft.nd rfl (.inl rfl) (eCal C_rings Ft (by decide) rfl (rCons (eName 0 rfl (.inl rfl)) rNil rfl)) rfl (.inl rfl))
    (rSeq (rRet (rIf (tTruA (eName 1 rfl (.inl rfl)) (by intro _; rfl)) (eIx Ft (eMinD Ft m_min rfl (rCons (rLc (c := false) Ft.calm Ft.nd (iSeq (eName 1 rfl (.inl rfl))) (own := [("ring", 2)]) (blk_by (by exact rfl)) (fun _ _ _ _ _ => (gName' 2 (by decide) (fit_blk Ft _ _ _ _ _).nd rfl (.inl rfl) (.inr rfl))) (fun _ _ _ _ _ => rtNil) (fun _ _ _ _ _ => (rTup (rCons (eLen m_len rfl (rCons (eName 2 rfl (.inl rfl)) rNil rfl)) (rCons (eName 2 rfl (.inl rfl)) rNil rfl) rfl)))) rNil rfl)) eInt (fun _ _ => rfl)) eNon))
    rSkip))
abbrev s_followers : Stmt := topS 20
theorem sc_followers : FnScope ["manners", "words", "row", "other", "word"] ["manners", "words"] (defScope s_followers) := ⟨rfl, rfl, rfl, by decide +kernel, rfl, by decide +kernel, by decide +kernel⟩
def d_followers : DS :=
    (dSeq (dRet (dLc false [2] (dSeqI (dBin opIx (dVar 0) (dCon (.int 0)))) (dgName 2) dYes (dLc false [3, 4] (dEnum (dVar 2)) (dgTup 2 (dgCons (dgName 3) (dgCons (dgName 4) dgNil))) (dCmpT (opIn false) (dVar 4) (dVar 1)) (dVar 3))))
    dSkip)
def fn_followers : DF := dDef 5 d_followers
theorem ok_followers {P : Program} {w : World} {K : PySem.W.Frag} {mg : Str → Option Value} {base : Heap} {T : List Addr} (m_enumerate : mg "enumerate" = none) {f : Addr} (cdv : Value) (A : Around) (outer : List Env) (s : Shared) (H : Hp) (E : XK) (hA : Clr A) (hR : Room 0 (A.deeper (envOfC "_followers" (defScope s_followers) s.heap.objs.size f cdv))) :
    PSs (cxOf (L2.CX P w) P w K mg base ["manners", "words", "row", "other", "word"] "_followers" (defScope s_followers) f cdv A outer s H E) (defBody s_followers) (sD K T d_followers) := by
  have Ft : Fit (cxOf (L2.CX P w) P w K mg base ["manners", "words", "row", "other", "word"] "_followers" (defScope s_followers) f cdv A outer s H E) 0 := fit_cx sc_followers hA hR
  exact (rSeq (rRet (rLc (c := false) Ft.calm Ft.nd (iSeq (eIx Ft (eName 0 rfl (.inl rfl)) eInt (fun _ _ => rfl))) (own := [("row", 2)]) (blk_by (by exact rfl)) (fun _ _ _ _ _ => (gName' 2 (by decide) (fit_blk Ft _ _ _ _ _).nd rfl (.inl rfl) (.inr rfl))) (fun _ _ _ _ _ => rtNil) (fun _ _ _ _ _ => (rLc (c := false) (fit_blk Ft _ _ _ _ _).calm (fit_blk Ft _ _ _ _ _).nd (iEnum' m_enumerate rfl (eName 2 rfl (.inl rfl)) rfl rfl) (own := [("other", 3), ("word", 4)]) (blk_by (by exact rfl)) (fun _ _ _ _ _ => (gTup' (fit_blk (fit_blk Ft _ _ _ _ _) _ _ _ _ _).calm (rgCons (gName' 3 (by decide) (fit_blk (fit_blk Ft _ _ _ _ _) _ _ _ _ _).nd rfl (.inl rfl) (.inr rfl)) (rgCons (gName' 4 (by decide) (fit_blk (fit_blk Ft _ _ _ _ _) _ _ _ _ _).nd rfl (.inl rfl) (.inr rfl)) rgNil rfl) rfl) rfl rfl)) (fun _ _ _ _ _ => (rtOne (tIn (fit_blk (fit_blk Ft _ _ _ _ _) _ _ _ _ _) (eName 4 rfl (.inl rfl)) (eName 1 rfl (.inr (.inl rfl))) rfl))) (fun _ _ _ _ _ => (eName 3 rfl (.inl rfl)))))))
    rSkip)
abbrev s_bowring : Stmt := topS 19
theorem sc_bowring : FnScope ["manners"] ["manners"] (defScope s_bowring) := ⟨rfl, rfl, rfl, by decide +kernel, rfl, by decide +kernel, by decide +kernel⟩
def d_bowring : DS :=
    (dSeq (dRet (dCallF 1 (dCons (dCallF 2 (dCons (dVar 0) (dCons (dTup (dCons (dCon (.str ("bow" : Str))) dNil)) dNil)) fn_followers) dNil) fn_leastring))
    dSkip)
def fn_bowring : DF := dDef 1 d_bowring
theorem ok_bowring {P : Program} {w : World} {K : PySem.W.Frag} {mg : Str → Option Value} {base : Heap} {T : List Addr} (C_leastring : Cal P w K mg base T 11 "least_ring" s_leastring ["followers"] fn_leastring) (C_followers : Cal P w K mg base T 1 "_followers" s_followers ["manners", "words"] fn_followers) {f : Addr} (cdv : Value) (A : Around) (outer : List Env) (s : Shared) (H : Hp) (E : XK) (hA : Clr A) (hR : Room 11 (A.deeper (envOfC "bow_ring" (defScope s_bowring) s.heap.objs.size f cdv))) :
    PSs (cxOf (L2.CX P w) P w K mg base ["manners"] "bow_ring" (defScope s_bowring) f cdv A outer s H E) (defBody s_bowring) (sD K T d_bowring) := by
  have Ft : Fit (cxOf (L2.CX P w) P w K mg base ["manners"] "bow_ring" (defScope s_bowring) f cdv A outer s H E) 11 := fit_cx sc_bowring hA hR
  exact (rSeq (rRet (eCal C_leastring Ft (by decide) rfl (rCons (eCal C_followers Ft (by decide) rfl (rCons (eName 0 rfl (.inl rfl)) (rCons (rTup (rCons eStr rNil rfl)) rNil rfl) rfl)) rNil rfl)))
    rSkip)
abbrev s_firstthree : Stmt := topS 25
theorem sc_firstthree : FnScope ["many", "pairs", "i", "j", "k"] ["many", "pairs"] (defScope s_firstthree) := ⟨rfl, rfl, rfl, by decide +kernel, rfl, by decide +kernel, by decide +kernel⟩
def d_firstthree : DS :=
    (dSeq (dFor (dSeqI (dVar 1)) (dgTup 2 (dgCons (dgName 2) (dgCons (dgName 3) dgNil)))
    (dSeq (dFor (dRng2 (dCons (dBin (opAdd false) (dVar 3) (dCon (.int 1))) (dCons (dVar 0) dNil))) (dgName 4)
    (dSeq (dIte (dAnd (dCmpT (opIn false) (dTup (dCons (dVar 2) (dCons (dVar 4) dNil))) (dVar 1)) (dCmpT (opIn false) (dTup (dCons (dVar 3) (dCons (dVar 4) dNil))) (dVar 1)))
    (dSeq (dRet (dTup (dCons (dVar 2) (dCons (dVar 3) (dCons (dVar 4) dNil)))))
    dSkip) dSkip)
    dSkip))
    dSkip))
    (dSeq (dRet (dCon .non))
    dSkip))
def fn_firstthree : DF := dDef 5 d_firstthree
theorem ok_firstthree {P : Program} {w : World} {K : PySem.W.Frag} {mg : Str → Option Value} {base : Heap} {T : List Addr} (m_range : mg "range" = none) {f : Addr} (cdv : Value) (A : Around) (outer : List Env) (s : Shared) (H : Hp) (E : XK) (hA : Clr A) (hR : Room 0 (A.deeper (envOfC "first_three" (defScope s_firstthree) s.heap.objs.size f cdv))) :
    PSs (cxOf (L2.CX P w) P w K mg base ["many", "pairs", "i", "j", "k"] "first_three" (defScope s_firstthree) f cdv A outer s H E) (defBody s_firstthree) (sD K T d_firstthree) := by
  have Ft : Fit (cxOf (L2.CX P w) P w K mg base ["many", "pairs", "i", "j", "k"] "first_three" (defScope s_firstthree) f cdv A outer s H E) 0 := fit_cx sc_firstthree hA hR
  exact (rSeq (sFor (I := [2, 3]) (passes_of rfl) rfl (iSeq (eName 1 rfl (.inl rfl))) (gTup' Ft.calm (rgCons (gName' 2 (by decide) Ft.nd rfl (.inl rfl) (.inr rfl)) (rgCons (gName' 3 (by decide) Ft.nd rfl (.inl rfl) (.inr rfl)) rgNil rfl) rfl) rfl rfl)
    (rSeq (sFor (I := [4]) (passes_of rfl) rfl (iRng2' m_range rfl (rCons (eAdd false (eName 3 rfl (.inl rfl)) eInt) (rCons (eName 0 rfl (.inl rfl)) rNil rfl) rfl) rfl rfl) (gName' 4 (by decide) Ft.nd rfl (.inl rfl) (.inr rfl))
    (rSeq (rIte (PW.pt (wAnd (tIn Ft (rTup (rCons (eName 2 rfl (.inl rfl)) (rCons (eName 4 rfl (.inl rfl)) rNil rfl) rfl)) (eName 1 rfl (.inl rfl)) rfl) (wAnd1 (tIn Ft (rTup (rCons (eName 3 rfl (.inl rfl)) (rCons (eName 4 rfl (.inl rfl)) rNil rfl) rfl)) (eName 1 rfl (.inl rfl)) rfl))))
    (rSeq (rRet (rTup (rCons (eName 2 rfl (.inl rfl)) (rCons (eName 3 rfl (.inl rfl)) (rCons (eName 4 rfl (.inl rfl)) rNil rfl) rfl) rfl)))
    rSkip) rSkip)
    rSkip) (fun _ => rfl))
    rSkip) (fun _ => rfl))
    (rSeq (rRet eNon)
    rSkip))
abbrev s_mannersof : Stmt := topS 29
theorem sc_mannersof : FnScope ["table"] ["table"] (defScope s_mannersof) := ⟨rfl, rfl, rfl, by decide +kernel, rfl, by decide +kernel, by decide +kernel⟩
def d_mannersof : DS :=
    (dSeq (dRet (dTup (dCons (dVar 0) (dCons (dCallF 1 (dCons (dCall opLen (dCons (dVar 0) dNil)) dNil) fn_risingorders) (dCons (dTup dNil) dNil)))))
    dSkip)
def fn_mannersof : DF := dDef 1 d_mannersof
theorem ok_mannersof {P : Program} {w : World} {K : PySem.W.Frag} {mg : Str → Option Value} {base : Heap} {T : List Addr} (m_len : mg "len" = none) (C_risingorders : Cal P w K mg base T 7 "rising_orders" s_risingorders ["many"] fn_risingorders) {f : Addr} (cdv : Value) (A : Around) (outer : List Env) (s : Shared) (H : Hp) (E : XK) (hA : Clr A) (hR : Room 7 (A.deeper (envOfC "manners_of" (defScope s_mannersof) s.heap.objs.size f cdv))) :
    PSs (cxOf (L2.CX P w) P w K mg base ["table"] "manners_of" (defScope s_mannersof) f cdv A outer s H E) (defBody s_mannersof) (sD K T d_mannersof) := by
  have Ft : Fit (cxOf (L2.CX P w) P w K mg base ["table"] "manners_of" (defScope s_mannersof) f cdv A outer s H E) 7 := fit_cx sc_mannersof hA hR
  exact (rSeq (rRet (rTup (rCons (eName 0 rfl (.inl rfl)) (rCons (eCal C_risingorders Ft (by decide) rfl (rCons (eLen m_len rfl (rCons (eName 0 rfl (.inl rfl)) rNil rfl)) rNil rfl)) (rCons (rTup rNil) rNil rfl) rfl) rfl)))
    rSkip)
abbrev s_isplain : Stmt := topS 28
theorem sc_isplain : FnScope ["value", "row", "word"] ["value"] (defScope s_isplain) := ⟨rfl, rfl, rfl, by decide +kernel, rfl, by decide +kernel, by decide +kernel⟩
def d_isplain : DS :=
    (dSeq (dIte (dOr (dNot (dTst (dIsi "tuple" (dVar 0)))) (dNot (dTst (dChain (opCmp fun i j => decide (i ≤ j)) (opCmp fun i j => decide (i ≤ j)) (dCon (.int 2)) (dCall opLen (dCons (dVar 0) dNil)) (dCon (.int 6))))))
    (dSeq (dRet (dCon (.bl false)))
    dSkip) dSkip)
    (dSeq (dIte (dCmpT (opIsN true) (dCallF 1 (dCons (dCallF 1 (dCons (dVar 0) dNil) fn_mannersof) dNil) fn_mannerserror) (dCon .non))
    (dSeq (dRet (dCon (.bl false)))
    dSkip) dSkip)
    (dSeq (dRet (dCall opAll (dCons (dLc2 false [1, 2] [2] (dSeqI (dVar 0)) (dgName 1) dYes (dSeqI (dVar 1)) (dgName 2) dYes (dOrV (dBin (opEq false) (dVar 2) (dCon (.str ("-" : Str)))) (dBin (opIn false) (dVar 2) (dCon (.tup [.str ("bow" : Str), .str ("even" : Str), .str ("stand" : Str)]))))) dNil)))
    dSkip)))
def fn_isplain : DF := dDef 3 d_isplain
theorem ok_isplain {P : Program} {w : World} {K : PySem.W.Frag} {mg : Str → Option Value} {base : Heap} {T : List Addr} (m_all : mg "all" = none) (m_isinstance : mg "isinstance" = none) (m_len : mg "len" = none) (m_tuple : mg "tuple" = none) {gP_LOTS : Addr} {go_LOTS : Option Addr} {gi_LOTS : Array Value} {gn_LOTS : Nat} {gl_LOTS : Array (Option Value)} {gv_LOTS : List V} (g_LOTS : mg "LOTS" = some (.ref gP_LOTS)) (gk_LOTS : K.lookup gP_LOTS = some ⟨.type "tuple", go_LOTS, .seq gi_LOTS gn_LOTS, gl_LOTS⟩) (gs_LOTS : gi_LOTS.size ≤ sizeLine) (gf_LOTS : flatVs gi_LOTS.toList = some (gv_LOTS, [.str ("bow" : Str), .str ("even" : Str), .str ("stand" : Str)])) {gt_MAX_HANDS : Tok} (g_MAX_HANDS : mg "MAX_HANDS" = some (.int 6 gt_MAX_HANDS)) (C_mannerserror : Cal P w K mg base T 4 "manners_error" s_mannerserror ["value"] fn_mannerserror) (C_mannersof : Cal P w K mg base T 8 "manners_of" s_mannersof ["table"] fn_mannersof) {f : Addr} (cdv : Value) (A : Around) (outer : List Env) (s : Shared) (H : Hp) (E : XK) (hA : Clr A) (hR : Room 8 (A.deeper (envOfC "is_plain" (defScope s_isplain) s.heap.objs.size f cdv))) :
    PSs (cxOf (L2.CX P w) P w K mg base ["value", "row", "word"] "is_plain" (defScope s_isplain) f cdv A outer s H E) (defBody s_isplain) (sD K T d_isplain) := by
  have Ft : Fit (cxOf (L2.CX P w) P w K mg base ["value", "row", "word"] "is_plain" (defScope s_isplain) f cdv A outer s H E) 8 := fit_cx sc_isplain hA hR
  exact (rSeq (rIte (PW.pt (wOr (rNot (tVal (eIsi "tuple" (eName 0 rfl (.inl rfl)) m_isinstance rfl m_tuple rfl (by decide +kernel) (by decide) (by decide)) (by intro _; rfl))) (wOr1 (rNot (tChain2 op_le op_le rule_cmp rule_cmp eInt (eLen m_len rfl (rCons (eName 0 rfl (.inl rfl)) rNil rfl)) (eGInt g_MAX_HANDS rfl (by decide)) rfl)))))
    (rSeq (rRet eBl)
    rSkip) rSkip)
    (rSeq (rIte (tIsNot (eCal C_mannerserror Ft (by decide) rfl (rCons (eCal C_mannersof Ft (by decide) rfl (rCons (eName 0 rfl (.inl rfl)) rNil rfl)) rNil rfl)) eNon)
    (rSeq (rRet eBl)
    rSkip) rSkip)
    (rSeq (rRet (eAll Ft m_all rfl (rCons (rLc2 (c := false) Ft.calm Ft.nd (iSeq (eName 0 rfl (.inl rfl))) (own := [("row", 1), ("word", 2)]) (vs1 := [2]) (blk_by (by exact rfl)) (by decide) (fun _ _ _ _ _ => (gName' 1 (by decide) (fit_blk Ft _ _ _ _ _).nd rfl (.inl rfl) (.inr rfl))) (fun _ _ _ _ _ => rtNil) (fun _ _ _ _ _ => (iSeq (eName 1 rfl (.inl rfl)))) (fun _ _ _ _ _ => (gName' 2 (by decide) (fit_blk Ft _ _ _ _ _).nd rfl (.inl rfl) (.inr rfl))) (fun _ _ _ _ _ => rtNil) (fun _ _ _ _ _ => (rOrV (eEq (fit_blk Ft _ _ _ _ _) (eName 2 rfl (.inl rfl)) eStr) (pe_one (eIn (fit_blk Ft _ _ _ _ _) (eName 2 rfl (.inl rfl)) (eGTup g_LOTS rfl gk_LOTS gs_LOTS gf_LOTS (by decide)) rfl))))) rNil rfl)))
    rSkip)))
abbrev s_hurdle : Stmt := topS 30
theorem sc_hurdle : FnScope ["table", "manners", "bows", "many", "i", "j", "three"] ["table"] (defScope s_hurdle) := ⟨rfl, rfl, rfl, by decide +kernel, rfl, by decide +kernel, by decide +kernel⟩
def d_hurdle : DS :=
    (dSeq (dIte (dNot (dTst (dCallF 1 (dCons (dVar 0) dNil) fn_isplain)))
    (dSeq dNever
    dSkip) dSkip)
    (dSeq (dAsg (dCallF 1 (dCons (dVar 0) dNil) fn_mannersof) (dgName 1))
    (dSeq (dAsg (dCallF 1 (dCons (dVar 1) dNil) fn_bowring) (dgName 2))
    (dSeq (dIte (dCmpT (opIsN true) (dVar 2) (dCon .non))
    (dSeq (dRet (dTup (dCons (dCon (.str ("bow" : Str))) (dCons (dVar 2) dNil))))
    dSkip) dSkip)
    (dSeq (dAsg (dCall opLen (dCons (dVar 0) dNil)) (dgName 3))
    (dSeq (dFor (dRng1 (dCons (dVar 3) dNil)) (dgName 4)
    (dSeq (dFor (dRng2 (dCons (dBin (opAdd false) (dVar 4) (dCon (.int 1))) (dCons (dVar 3) dNil))) (dgName 5)
    (dSeq (dIte (dAnd (dCmpT (opEq false) (dBin opIx (dBin opIx (dVar 0) (dVar 4)) (dVar 5)) (dCon (.str ("stand" : Str)))) (dCmpT (opEq false) (dBin opIx (dBin opIx (dVar 0) (dVar 5)) (dVar 4)) (dCon (.str ("stand" : Str)))))
    (dSeq (dRet (dTup (dCons (dCon (.str ("stand" : Str))) (dCons (dVar 4) (dCons (dVar 5) dNil)))))
    dSkip) dSkip)
    dSkip))
    dSkip))
    (dSeq (dAsg (dCallF 2 (dCons (dVar 3) (dCons (dCallF 1 (dCons (dVar 1) dNil) fn_evenpairs) dNil)) fn_firstthree) (dgName 6))
    (dSeq (dRet (dIf (dCmpT (opIsN false) (dVar 6) (dCon .non)) (dCon .non) (dBin (opAdd false) (dTup (dCons (dCon (.str ("three" : Str))) dNil)) (dVar 6))))
    dSkip))))))))
def fn_hurdle : DF := dDef 7 d_hurdle
theorem ok_hurdle {P : Program} {w : World} {K : PySem.W.Frag} {mg : Str → Option Value} {base : Heap} {T : List Addr} (m_len : mg "len" = none) (m_range : mg "range" = none) (C_firstthree : Cal P w K mg base T 1 "first_three" s_firstthree ["many", "pairs"] fn_firstthree) (C_evenpairs : Cal P w K mg base T 6 "even_pairs" s_evenpairs ["manners"] fn_evenpairs) (C_bowring : Cal P w K mg base T 12 "bow_ring" s_bowring ["manners"] fn_bowring) (C_mannersof : Cal P w K mg base T 8 "manners_of" s_mannersof ["table"] fn_mannersof) (C_isplain : Cal P w K mg base T 9 "is_plain" s_isplain ["value"] fn_isplain) {f : Addr} (cdv : Value) (A : Around) (outer : List Env) (s : Shared) (H : Hp) (E : XK) (hA : Clr A) (hR : Room 12 (A.deeper (envOfC "hurdle" (defScope s_hurdle) s.heap.objs.size f cdv))) :
    PSs (cxOf (L2.CX P w) P w K mg base ["table", "manners", "bows", "many", "i", "j", "three"] "hurdle" (defScope s_hurdle) f cdv A outer s H E) (defBody s_hurdle) (sD K T d_hurdle) := by
  have Ft : Fit (cxOf (L2.CX P w) P w K mg base ["table", "manners", "bows", "many", "i", "j", "three"] "hurdle" (defScope s_hurdle) f cdv A outer s H E) 12 := fit_cx sc_hurdle hA hR
  exact (rSeq (rIte (rNot (tVal (eCal C_isplain Ft (by decide) rfl (rCons (eName 0 rfl (.inl rfl)) rNil rfl)) (by intro _; rfl)))
    (rSeq rNever
    rSkip) rSkip)
    (rSeq (sSet 1 Ft.nd rfl (.inl rfl) (eCal C_mannersof Ft (by decide) rfl (rCons (eName 0 rfl (.inl rfl)) rNil rfl)) rfl (.inl rfl))
    (rSeq (sSet 2 Ft.nd rfl (.inl rfl) (eCal C_bowring Ft (by decide) rfl (rCons (eName 1 rfl (.inl rfl)) rNil rfl)) rfl (.inl rfl))
    (rSeq (rIte (tIsNot (eName 2 rfl (.inl rfl)) eNon)
    (rSeq (rRet (rTup (rCons eStr (rCons (eName 2 rfl (.inl rfl)) rNil rfl) rfl)))
    rSkip) rSkip)
    (rSeq (sSet 3 Ft.nd rfl (.inl rfl) (eLen m_len rfl (rCons (eName 0 rfl (.inl rfl)) rNil rfl)) rfl (.inl rfl))
    (rSeq (sFor (I := [4]) (passes_of rfl) rfl (iRng1' m_range rfl (rCons (eName 3 rfl (.inl rfl)) rNil rfl) rfl) (gName' 4 (by decide) Ft.nd rfl (.inl rfl) (.inr rfl))
    (rSeq (sFor (I := [5]) (passes_of rfl) rfl (iRng2' m_range rfl (rCons (eAdd false (eName 4 rfl (.inl rfl)) eInt) (rCons (eName 3 rfl (.inl rfl)) rNil rfl) rfl) rfl rfl) (gName' 5 (by decide) Ft.nd rfl (.inl rfl) (.inr rfl))
    (rSeq (rIte (PW.pt (wAnd (tEq Ft (eIx Ft (eIx Ft (eName 0 rfl (.inl rfl)) (eName 4 rfl (.inl rfl)) (fun _ _ => rfl)) (eName 5 rfl (.inl rfl)) (fun _ _ => rfl)) eStr) (wAnd1 (tEq Ft (eIx Ft (eIx Ft (eName 0 rfl (.inl rfl)) (eName 5 rfl (.inl rfl)) (fun _ _ => rfl)) (eName 4 rfl (.inl rfl)) (fun _ _ => rfl)) eStr))))
    (rSeq (rRet (rTup (rCons eStr (rCons (eName 4 rfl (.inl rfl)) (rCons (eName 5 rfl (.inl rfl)) rNil rfl) rfl) rfl)))
    rSkip) rSkip)
    rSkip) (fun _ => rfl))
    rSkip) (fun _ => rfl))
    (rSeq (sSet 6 Ft.nd rfl (.inl rfl) (eCal C_firstthree Ft (by decide) rfl (rCons (eName 3 rfl (.inl rfl)) (rCons (eCal C_evenpairs Ft (by decide) rfl (rCons (eName 1 rfl (.inl rfl)) rNil rfl)) rNil rfl) rfl)) rfl (.inl rfl))
    (rSeq (rRet (rIf (tIs (eName 6 rfl (.inl rfl)) eNon) eNon (eAdd false (rTup (rCons eStr rNil rfl)) (eName 6 rfl (.inl rfl)))))
    rSkip))))))))
abbrev s_lawbag : Stmt := topS 32
theorem sc_lawbag : FnScope ["script", "stirred", "cell", "far"] ["script"] (defScope s_lawbag) := ⟨rfl, rfl, rfl, by decide +kernel, rfl, by decide +kernel, by decide +kernel⟩
def d_lawbag : DS :=
    (dSeq (dAsg (dBin (opAdd false) (dCon (.int 15783)) (dBin (opMulA false) (dCon (.int 11)) (dCall opLen (dCons (dVar 0) dNil)))) (dgName 1))
    (dSeq (dFor (dSeqI (dSlG false (dVar 0) doNone (doSome (dCon (.int 63))))) (dgName 2)
    (dSeq (dAsg (dBin opMod (dCall opInt (dCons (dBin (opAdd false) (dBin (opAdd false) (dBin (opAdd false) (dBin (opMulA false) (dVar 1) (dCon (.int 6364136223846793005))) (dBin (opMulA false) (dCon (.int 2)) (dCall opAbs (dCons (dVar 2) dNil)))) (dCall opInt (dCons (dBin (opCmp fun i j => decide (i < j)) (dVar 2) (dCon (.int 0))) dNil))) (dCon (.int 1))) dNil)) (dCon (.int 18446744073709551557))) (dgName 1))
    dSkip))
    (dSeq (dAsg (dLc true [2] (dSeqI (dSlG false (dVar 0) doNone (doSome (dCon (.int 63))))) (dgName 2) (dCmpT (opCmp fun i j => decide (j ≤ i)) (dCall opAbs (dCons (dVar 2) dNil)) (dCon (.int 1000000000000000))) (dCall opAbs (dCons (dVar 2) dNil))) (dgName 3))
    (dSeq (dRet (dDisp true [.inr ("far" : Str), .inr ("one" : Str), .inr ("turn" : Str)] (dCons (dVar 3) (dCons (dVar 1) (dCons (dCon (.int 0)) dNil)))))
    dSkip))))
def fn_lawbag : DF := dDef 4 d_lawbag
theorem ok_lawbag {P : Program} {w : World} {K : PySem.W.Frag} {mg : Str → Option Value} {base : Heap} {T : List Addr} (m_abs : mg "abs" = none) (m_int : mg "int" = none) (m_len : mg "len" = none) {f : Addr} (cdv : Value) (A : Around) (outer : List Env) (s : Shared) (H : Hp) (E : XK) (hA : Clr A) (hR : Room 0 (A.deeper (envOfC "_law_bag" (defScope s_lawbag) s.heap.objs.size f cdv))) :
    PSs (cxOf (L2.CX P w) P w K mg base ["script", "stirred", "cell", "far"] "_law_bag" (defScope s_lawbag) f cdv A outer s H E) (defBody s_lawbag) (sD K T d_lawbag) := by
  have Ft : Fit (cxOf (L2.CX P w) P w K mg base ["script", "stirred", "cell", "far"] "_law_bag" (defScope s_lawbag) f cdv A outer s H E) 0 := fit_cx sc_lawbag hA hR
  exact (rSeq (sSet 1 Ft.nd rfl (.inl rfl) (eAdd false eInt (eMulA false eInt (eLen m_len rfl (rCons (eName 0 rfl (.inl rfl)) rNil rfl)))) rfl (.inl rfl))
    (rSeq (sFor (I := [2]) (passes_of rfl) rfl (iSeq (rSlG (c := false) (eName 0 rfl (.inl rfl)) roNone (roSome eInt))) (gName' 2 (by decide) Ft.nd rfl (.inl rfl) (.inr rfl))
    (rSeq (sSet 1 Ft.nd rfl (.inl rfl) (eMod (eIntOf m_int rfl (rCons (eAdd false (eAdd false (eAdd false (eMulA false (eName 1 rfl (.inl rfl)) eInt) (eMulA false eInt (eAbs m_abs rfl (rCons (eName 2 rfl (.inl rfl)) rNil rfl)))) (eIntOf m_int rfl (rCons (eLt (eName 2 rfl (.inl rfl)) eInt) rNil rfl))) eInt) rNil rfl)) eInt) rfl (.inl rfl))
    rSkip) (fun _ => rfl))
    (rSeq (rSetLc (i := 3) (c := true) Ft.calm Ft.nd rfl rfl rfl (iSeq (rSlG (c := false) (eName 0 rfl (.inl rfl)) roNone (roSome eInt))) (own := [("cell", 2)]) (blk_by (by exact rfl)) (fun _ _ _ _ _ => (gName' 2 (by decide) (fit_blk Ft _ _ _ _ _).nd rfl (.inl rfl) (.inr rfl))) (fun _ _ _ _ _ => (rtOne (tGe (eAbs m_abs rfl (rCons (eName 2 rfl (.inl rfl)) rNil rfl)) eInt))) (fun _ _ _ _ _ => (eAbs m_abs rfl (rCons (eName 2 rfl (.inl rfl)) rNil rfl))))
    (rSeq (rRet (rDisp (c := true) (rpCons (κ := .inr ("far" : Str)) pe_str (eName 3 rfl (.inl rfl)) (rpCons (κ := .inr ("one" : Str)) pe_str (eName 1 rfl (.inl rfl)) (rpCons (κ := .inr ("turn" : Str)) pe_str eInt rpNil))) (by decide +kernel) rfl rfl (by exact List.cons_ne_nil _ _) (by decide) (by decide)))
    rSkip))))
abbrev s_lawdraw : Stmt := topS 33
theorem sc_lawdraw : FnScope ["bag", "many", "cell", "found"] ["bag", "many"] (defScope s_lawdraw) := ⟨rfl, rfl, rfl, by decide +kernel, rfl, by decide +kernel, by decide +kernel⟩
def d_lawdraw : DS :=
    (dSeq (dIte (dCmpT (opCmp fun i j => decide (i < j)) (dVar 1) (dCon (.int 2)))
    (dSeq (dRet (dCon (.int 0)))
    dSkip) dSkip)
    (dSeq (dIte (dCmpT (opEq true) (dBin opIx (dVar 0) (dCon (.str ("far" : Str)))) (dLst false dNil))
    (dSeq (dAsg (dMeth0 "list" opPop0 (dBin opIx (dVar 0) (dCon (.str ("far" : Str))))) (dgName 2))
    (dSeq (dIte (dCmpT (opCmp fun i j => decide (j ≤ i)) (dVar 2) (dVar 1))
    (dSeq (dExpr (dMeth "list" opAppend (dBin opIx (dVar 0) (dCon (.str ("far" : Str)))) (dCons (dBin opDiv (dVar 2) (dVar 1)) dNil)))
    dSkip) dSkip)
    (dSeq (dRet (dBin opMod (dCall opInt (dCons (dVar 2) dNil)) (dVar 1)))
    dSkip))) dSkip)
    (dSeq (dAsg (dBin (opAdd false) (dBin opIx (dVar 0) (dCon (.str ("turn" : Str)))) (dCon (.int 1))) (dgSub (dVar 0) (dCon (.str ("turn" : Str)))))
    (dSeq (dAsg (dBin opMod (dCall opInt (dCons (dBin (opAdd false) (dBin opIx (dVar 0) (dCon (.str ("one" : Str)))) (dBin (opMulA false) (dCon (.int 11400714819323198485)) (dBin opIx (dVar 0) (dCon (.str ("turn" : Str)))))) dNil)) (dCon (.int 18446744073709551557))) (dgName 3))
    (dSeq (dAsg (dBin opMod (dCall opInt (dCons (dBin (opAdd false) (dBin (opAdd false) (dBin (opMulA false) (dVar 3) (dVar 3)) (dBin (opMulA false) (dCon (.int 69069)) (dBin opIx (dVar 0) (dCon (.str ("turn" : Str)))))) (dCon (.int 13))) dNil)) (dCon (.int 18446744073709551557))) (dgName 3))
    (dSeq (dAsg (dBin opMod (dCall opInt (dCons (dBin (opAdd false) (dBin (opMulA false) (dVar 3) (dVar 3)) (dBin opIx (dVar 0) (dCon (.str ("one" : Str))))) dNil)) (dCon (.int 18446744073709551533))) (dgName 3))
    (dSeq (dRet (dBin opMod (dCall opInt (dCons (dBin opDiv (dVar 3) (dCon (.int 65536))) dNil)) (dVar 1)))
    dSkip)))))))
def fn_lawdraw : DF := dDef 4 d_lawdraw
theorem ok_lawdraw {P : Program} {w : World} {K : PySem.W.Frag} {mg : Str → Option Value} {base : Heap} {T : List Addr} (m_int : mg "int" = none) {f : Addr} (cdv : Value) (A : Around) (outer : List Env) (s : Shared) (H : Hp) (E : XK) (hA : Clr A) (hR : Room 0 (A.deeper (envOfC "_law_draw" (defScope s_lawdraw) s.heap.objs.size f cdv))) :
    PSs (cxOf (L2.CX P w) P w K mg base ["bag", "many", "cell", "found"] "_law_draw" (defScope s_lawdraw) f cdv A outer s H E) (defBody s_lawdraw) (sD K T d_lawdraw) := by
  have Ft : Fit (cxOf (L2.CX P w) P w K mg base ["bag", "many", "cell", "found"] "_law_draw" (defScope s_lawdraw) f cdv A outer s H E) 0 := fit_cx sc_lawdraw hA hR
  exact (rSeq (rIte (tLt (eName 1 rfl (.inl rfl)) eInt)
    (rSeq (rRet eInt)
    rSkip) rSkip)
    (rSeq (rIte (tNe Ft (eIx Ft (eName 0 rfl (.inl rfl)) eStr (fun _ _ => rfl)) (rLst (c := false) rNil))
    (rSeq (sSet 2 Ft.nd rfl (.inl rfl) (ePop0 (eIx Ft (eName 0 rfl (.inl rfl)) eStr (fun _ _ => rfl)) rfl rfl) rfl (.inl rfl))
    (rSeq (rIte (tGe (eName 2 rfl (.inl rfl)) (eName 1 rfl (.inl rfl)))
    (rSeq (rExpr (eAppend (eIx Ft (eName 0 rfl (.inl rfl)) eStr (fun _ _ => rfl)) (rCons (eDiv (eName 2 rfl (.inl rfl)) (eName 1 rfl (.inl rfl))) rNil rfl) rfl rfl rfl rfl rfl) rfl)
    rSkip) rSkip)
    (rSeq (rRet (eMod (eIntOf m_int rfl (rCons (eName 2 rfl (.inl rfl)) rNil rfl)) (eName 1 rfl (.inl rfl))))
    rSkip))) rSkip)
    (rSeq (sAsg (I := []) (eAdd false (eIx Ft (eName 0 rfl (.inl rfl)) eStr (fun _ _ => rfl)) eInt) (gSub' Ft (eName 0 rfl (.inl rfl)) eStr (by intro _; rfl)) rfl rfl rfl)
    (rSeq (sSet 3 Ft.nd rfl (.inl rfl) (eMod (eIntOf m_int rfl (rCons (eAdd false (eIx Ft (eName 0 rfl (.inl rfl)) eStr (fun _ _ => rfl)) (eMulA false eInt (eIx Ft (eName 0 rfl (.inl rfl)) eStr (fun _ _ => rfl)))) rNil rfl)) eInt) rfl (.inl rfl))
    (rSeq (sSet 3 Ft.nd rfl (.inl rfl) (eMod (eIntOf m_int rfl (rCons (eAdd false (eAdd false (eMulA false (eName 3 rfl (.inl rfl)) (eName 3 rfl (.inl rfl))) (eMulA false eInt (eIx Ft (eName 0 rfl (.inl rfl)) eStr (fun _ _ => rfl)))) eInt) rNil rfl)) eInt) rfl (.inl rfl))
    (rSeq (sSet 3 Ft.nd rfl (.inl rfl) (eMod (eIntOf m_int rfl (rCons (eAdd false (eMulA false (eName 3 rfl (.inl rfl)) (eName 3 rfl (.inl rfl))) (eIx Ft (eName 0 rfl (.inl rfl)) eStr (fun _ _ => rfl))) rNil rfl)) eInt) rfl (.inl rfl))
    (rSeq (rRet (eMod (eIntOf m_int rfl (rCons (eDiv (eName 3 rfl (.inl rfl)) eInt) rNil rfl)) (eName 1 rfl (.inl rfl))))
    rSkip)))))))
abbrev s_lawpick : Stmt := topS 34
theorem sc_lawpick : FnScope ["bag", "some"] ["bag", "some"] (defScope s_lawpick) := ⟨rfl, rfl, rfl, by decide +kernel, rfl, by decide +kernel, by decide +kernel⟩
def d_lawpick : DS :=
    (dSeq (dRet (dBin opIx (dVar 1) (dCallF 2 (dCons (dVar 0) (dCons (dCall opLen (dCons (dVar 1) dNil)) dNil)) fn_lawdraw)))
    dSkip)
def fn_lawpick : DF := dDef 2 d_lawpick
theorem ok_lawpick {P : Program} {w : World} {K : PySem.W.Frag} {mg : Str → Option Value} {base : Heap} {T : List Addr} (m_len : mg "len" = none) (C_lawdraw : Cal P w K mg base T 1 "_law_draw" s_lawdraw ["bag", "many"] fn_lawdraw) {f : Addr} (cdv : Value) (A : Around) (outer : List Env) (s : Shared) (H : Hp) (E : XK) (hA : Clr A) (hR : Room 1 (A.deeper (envOfC "_law_pick" (defScope s_lawpick) s.heap.objs.size f cdv))) :
    PSs (cxOf (L2.CX P w) P w K mg base ["bag", "some"] "_law_pick" (defScope s_lawpick) f cdv A outer s H E) (defBody s_lawpick) (sD K T d_lawpick) := by
  have Ft : Fit (cxOf (L2.CX P w) P w K mg base ["bag", "some"] "_law_pick" (defScope s_lawpick) f cdv A outer s H E) 1 := fit_cx sc_lawpick hA hR
  exact (rSeq (rRet (eIx Ft (eName 1 rfl (.inl rfl)) (eCal C_lawdraw Ft (by decide) rfl (rCons (eName 0 rfl (.inl rfl)) (rCons (eLen m_len rfl (rCons (eName 1 rfl (.inl rfl)) rNil rfl)) rNil rfl) rfl)) (fun _ _ => rfl)))
    rSkip)
abbrev s_lawmixed : Stmt := topS 35
theorem sc_lawmixed : FnScope ["bag", "some", "left", "found", "turn"] ["bag", "some"] (defScope s_lawmixed) := ⟨rfl, rfl, rfl, by decide +kernel, rfl, by decide +kernel, by decide +kernel⟩
def d_lawmixed : DS :=
    (dSeq (dPar 2 3 (dCons (dCall (opList true) (dCons (dVar 1) dNil)) (dCons (dLst true dNil) dNil)))
    (dSeq (dFor (dRng1 (dCons (dCall opLen (dCons (dVar 2) dNil)) dNil)) (dgName 4)
    (dSeq (dExpr (dMeth "list" opAppend (dVar 3) (dCons (dMeth "list" opPopAt (dVar 2) (dCons (dCallF 2 (dCons (dVar 0) (dCons (dCall opLen (dCons (dVar 2) dNil)) dNil)) fn_lawdraw) dNil)) dNil)))
    dSkip))
    (dSeq (dRet (dVar 3))
    dSkip)))
def fn_lawmixed : DF := dDef 5 d_lawmixed
theorem ok_lawmixed {P : Program} {w : World} {K : PySem.W.Frag} {mg : Str → Option Value} {base : Heap} {T : List Addr} (m_len : mg "len" = none) (m_list : mg "list" = none) (m_range : mg "range" = none) (C_lawdraw : Cal P w K mg base T 1 "_law_draw" s_lawdraw ["bag", "many"] fn_lawdraw) {f : Addr} (cdv : Value) (A : Around) (outer : List Env) (s : Shared) (H : Hp) (E : XK) (hA : Clr A) (hR : Room 1 (A.deeper (envOfC "_law_mixed" (defScope s_lawmixed) s.heap.objs.size f cdv))) :
    PSs (cxOf (L2.CX P w) P w K mg base ["bag", "some", "left", "found", "turn"] "_law_mixed" (defScope s_lawmixed) f cdv A outer s H E) (defBody s_lawmixed) (sD K T d_lawmixed) := by
  have Ft : Fit (cxOf (L2.CX P w) P w K mg base ["bag", "some", "left", "found", "turn"] "_law_mixed" (defScope s_lawmixed) f cdv A outer s H E) 1 := fit_cx sc_lawmixed hA hR
  exact (rSeq (sPar 2 3 Ft.calm Ft.nd rfl rfl (by decide) rfl rfl (rCons (eListOf true m_list rfl (rCons (eName 1 rfl (.inl rfl)) rNil rfl)) (rCons (rLst (c := true) rNil) rNil rfl) rfl) rfl rfl)
    (rSeq (sFor (I := [4]) (passes_of rfl) rfl (iRng1' m_range rfl (rCons (eLen m_len rfl (rCons (eName 2 rfl (.inl rfl)) rNil rfl)) rNil rfl) rfl) (gName' 4 (by decide) Ft.nd rfl (.inl rfl) (.inr rfl))
    (rSeq (rExpr (eAppend (eName 3 rfl (.inl rfl)) (rCons (ePopAt (eName 2 rfl (.inl rfl)) (rCons (eCal C_lawdraw Ft (by decide) rfl (rCons (eName 0 rfl (.inl rfl)) (rCons (eLen m_len rfl (rCons (eName 2 rfl (.inl rfl)) rNil rfl)) rNil rfl) rfl)) rNil rfl) rfl rfl rfl rfl rfl) rNil rfl) rfl rfl rfl rfl rfl) rfl)
    rSkip) (fun _ => rfl))
    (rSeq (rRet (eName 3 rfl (.inl rfl)))
    rSkip)))
abbrev s_lawrows : Stmt := topS 36
theorem sc_lawrows : FnScope ["table", "row"] ["table"] (defScope s_lawrows) := ⟨rfl, rfl, rfl, by decide +kernel, rfl, by decide +kernel, by decide +kernel⟩
def d_lawrows : DS :=
    (dSeq (dRet (dLc true [1] (dSeqI (dVar 0)) (dgName 1) dYes (dCall (opList true) (dCons (dVar 1) dNil))))
    dSkip)
def fn_lawrows : DF := dDef 2 d_lawrows
theorem ok_lawrows {P : Program} {w : World} {K : PySem.W.Frag} {mg : Str → Option Value} {base : Heap} {T : List Addr} (m_list : mg "list" = none) {f : Addr} (cdv : Value) (A : Around) (outer : List Env) (s : Shared) (H : Hp) (E : XK) (hA : Clr A) (hR : Room 0 (A.deeper (envOfC "_law_rows" (defScope s_lawrows) s.heap.objs.size f cdv))) :
    PSs (cxOf (L2.CX P w) P w K mg base ["table", "row"] "_law_rows" (defScope s_lawrows) f cdv A outer s H E) (defBody s_lawrows) (sD K T d_lawrows) := by
  have Ft : Fit (cxOf (L2.CX P w) P w K mg base ["table", "row"] "_law_rows" (defScope s_lawrows) f cdv A outer s H E) 0 := fit_cx sc_lawrows hA hR
  exact (rSeq (rRet (rLc (c := true) Ft.calm Ft.nd (iSeq (eName 0 rfl (.inl rfl))) (own := [("row", 1)]) (blk_by (by exact rfl)) (fun _ _ _ _ _ => (gName' 1 (by decide) (fit_blk Ft _ _ _ _ _).nd rfl (.inl rfl) (.inr rfl))) (fun _ _ _ _ _ => rtNil) (fun _ _ _ _ _ => (eListOf true m_list rfl (rCons (eName 1 rfl (.inl rfl)) rNil rfl)))))
    rSkip)
abbrev s_lawtable : Stmt := topS 37
theorem sc_lawtable : FnScope ["bag", "hands", "menu", "many", "rows", "own", "mate", "row"] ["bag", "hands", "menu", "many"] (defScope s_lawtable) := ⟨rfl, rfl, rfl, by decide +kernel, rfl, by decide +kernel, by decide +kernel⟩
def d_lawtable : DS :=
    (dSeq (dAsg (dLc true [5] (dRng1 (dCons (dVar 1) dNil)) (dgName 5) dYes (dBin (opMulA true) (dLst false (dCons (dCon (.str ("-" : Str))) dNil)) (dVar 1))) (dgName 4))
    (dSeq (dFor (dRng1 (dCons (dVar 1) dNil)) (dgName 5)
    (dSeq (dFor (dRng2 (dCons (dBin (opAdd false) (dVar 5) (dCon (.int 1))) (dCons (dVar 1) dNil))) (dgName 6)
    (dSeq (dIte (dCmpT (opCmp fun i j => decide (i < j)) (dCallF 2 (dCons (dVar 0) (dCons (dCon (.int 10)) dNil)) fn_lawdraw) (dVar 3))
    (dSeq (dAsg (dTup (dCons (dCon (.str ("even" : Str))) (dCons (dCon (.str ("even" : Str))) dNil))) (dgTup 2 (dgCons (dgSub (dBin opIx (dVar 4) (dVar 5)) (dVar 6)) (dgCons (dgSub (dBin opIx (dVar 4) (dVar 6)) (dVar 5)) dgNil))))
    dSkip) (dSeq (dAsg (dTup (dCons (dCallF 2 (dCons (dVar 0) (dCons (dVar 2) dNil)) fn_lawpick) (dCons (dCallF 2 (dCons (dVar 0) (dCons (dVar 2) dNil)) fn_lawpick) dNil))) (dgTup 2 (dgCons (dgSub (dBin opIx (dVar 4) (dVar 5)) (dVar 6)) (dgCons (dgSub (dBin opIx (dVar 4) (dVar 6)) (dVar 5)) dgNil))))
    dSkip))
    dSkip))
    dSkip))
    (dSeq (dRet (dCall opTuple (dCons (dLc false [7] (dSeqI (dVar 4)) (dgName 7) dYes (dCall opTuple (dCons (dVar 7) dNil))) dNil)))
    dSkip)))
def fn_lawtable : DF := dDef 8 d_lawtable
theorem ok_lawtable {P : Program} {w : World} {K : PySem.W.Frag} {mg : Str → Option Value} {base : Heap} {T : List Addr} (m_range : mg "range" = none) (m_tuple : mg "tuple" = none) (C_lawdraw : Cal P w K mg base T 1 "_law_draw" s_lawdraw ["bag", "many"] fn_lawdraw) (C_lawpick : Cal P w K mg base T 2 "_law_pick" s_lawpick ["bag", "some"] fn_lawpick) {f : Addr} (cdv : Value) (A : Around) (outer : List Env) (s : Shared) (H : Hp) (E : XK) (hA : Clr A) (hR : Room 2 (A.deeper (envOfC "_law_table" (defScope s_lawtable) s.heap.objs.size f cdv))) :
    PSs (cxOf (L2.CX P w) P w K mg base ["bag", "hands", "menu", "many", "rows", "own", "mate", "row"] "_law_table" (defScope s_lawtable) f cdv A outer s H E) (defBody s_lawtable) (sD K T d_lawtable) := by
  have Ft : Fit (cxOf (L2.CX P w) P w K mg base ["bag", "hands", "menu", "many", "rows", "own", "mate", "row"] "_law_table" (defScope s_lawtable) f cdv A outer s H E) 2 := fit_cx sc_lawtable hA hR
  exact (rSeq (rSetLc (i := 4) (c := true) Ft.calm Ft.nd rfl rfl rfl (iRng1' m_range rfl (rCons (eName 1 rfl (.inr (.inl rfl))) rNil rfl) rfl) (own := [("own", 5)]) (blk_by (by exact rfl)) (fun _ _ _ _ _ => (gName' 5 (by decide) (fit_blk Ft _ _ _ _ _).nd rfl (.inl rfl) (.inr rfl))) (fun _ _ _ _ _ => rtNil) (fun _ _ _ _ _ => (eMulA true (rLst (c := false) (rCons eStr rNil rfl)) (eName 1 rfl (.inr (.inl rfl))))))
    (rSeq (sFor (I := [5]) (passes_of rfl) rfl (iRng1' m_range rfl (rCons (eName 1 rfl (.inr (.inl rfl))) rNil rfl) rfl) (gName' 5 (by decide) Ft.nd rfl (.inl rfl) (.inr rfl))
    (rSeq (sFor (I := [6]) (passes_of rfl) rfl (iRng2' m_range rfl (rCons (eAdd false (eName 5 rfl (.inl rfl)) eInt) (rCons (eName 1 rfl (.inr (.inl rfl))) rNil rfl) rfl) rfl rfl) (gName' 6 (by decide) Ft.nd rfl (.inl rfl) (.inr rfl))
    (rSeq (rIte (tLt (eCal C_lawdraw Ft (by decide) rfl (rCons (eName 0 rfl (.inl rfl)) (rCons eInt rNil rfl) rfl)) (eName 3 rfl (.inl rfl)))
    (rSeq (sAsg (I := []) (rTup (rCons eStr (rCons eStr rNil rfl) rfl)) (gTup' Ft.calm (rgCons (gSub' Ft (eIx Ft (eName 4 rfl (.inl rfl)) (eName 5 rfl (.inl rfl)) (fun _ _ => rfl)) (eName 6 rfl (.inl rfl)) (by intro _; rfl)) (rgCons (gSub' Ft (eIx Ft (eName 4 rfl (.inl rfl)) (eName 6 rfl (.inl rfl)) (fun _ _ => rfl)) (eName 5 rfl (.inl rfl)) (by intro _; rfl)) rgNil rfl) rfl) rfl rfl) rfl rfl rfl)
    rSkip) (rSeq (sAsg (I := []) (rTup (rCons (eCal C_lawpick Ft (by decide) rfl (rCons (eName 0 rfl (.inl rfl)) (rCons (eName 2 rfl (.inl rfl)) rNil rfl) rfl)) (rCons (eCal C_lawpick Ft (by decide) rfl (rCons (eName 0 rfl (.inl rfl)) (rCons (eName 2 rfl (.inl rfl)) rNil rfl) rfl)) rNil rfl) rfl)) (gTup' Ft.calm (rgCons (gSub' Ft (eIx Ft (eName 4 rfl (.inl rfl)) (eName 5 rfl (.inl rfl)) (fun _ _ => rfl)) (eName 6 rfl (.inl rfl)) (by intro _; rfl)) (rgCons (gSub' Ft (eIx Ft (eName 4 rfl (.inl rfl)) (eName 6 rfl (.inl rfl)) (fun _ _ => rfl)) (eName 5 rfl (.inl rfl)) (by intro _; rfl)) rgNil rfl) rfl) rfl rfl) rfl rfl rfl)
    rSkip))
    rSkip) (fun _ => rfl))
    rSkip) (fun _ => rfl))
    (rSeq (rRet (eTupOf m_tuple rfl (rCons (rLc (c := false) Ft.calm Ft.nd (iSeq (eName 4 rfl (.inl rfl))) (own := [("row", 7)]) (blk_by (by exact rfl)) (fun _ _ _ _ _ => (gName' 7 (by decide) (fit_blk Ft _ _ _ _ _).nd rfl (.inl rfl) (.inr rfl))) (fun _ _ _ _ _ => rtNil) (fun _ _ _ _ _ => (eTupOf m_tuple rfl (rCons (eName 7 rfl (.inl rfl)) rNil rfl)))) rNil rfl)))
    rSkip)))
abbrev s_lawranked : Stmt := topS 38
theorem sc_lawranked : FnScope ["bag", "hands", "many", "row", "rows", "at", "far", "own", "mate", "close", "hand"] ["bag", "hands", "many"] (defScope s_lawranked) := ⟨rfl, rfl, rfl, by decide +kernel, rfl, by decide +kernel, by decide +kernel⟩
def d_lawranked : DS :=
    (dSeq (dAsg (dTup (dCons (dCallF 2 (dCons (dVar 0) (dCons (dLrg false (dVar 1)) dNil)) fn_lawmixed) (dCons (dLc true [7] (dRng1 (dCons (dVar 1) dNil)) (dgName 7) dYes (dBin (opMulA true) (dLst false (dCons (dCon (.str ("-" : Str))) dNil)) (dVar 1))) dNil))) (dgTup 2 (dgCons (dgName 3) (dgCons (dgName 4) dgNil))))
    (dSeq (dFor (dRng1 (dCons (dVar 1) dNil)) (dgName 5)
    (dSeq (dFor (dRng1 (dCons (dVar 5) dNil)) (dgName 6)
    (dSeq (dAsg (dTup (dCons (dBin opIx (dVar 3) (dVar 6)) (dCons (dBin opIx (dVar 3) (dVar 5)) dNil))) (dgTup 2 (dgCons (dgName 7) (dgCons (dgName 8) dgNil))))
    (dSeq (dAsg (dLc false [10] (dRng1 (dCons (dVar 1) dNil)) (dgName 10) (dAnd (dCmpT (opEq false) (dBin opIx (dBin opIx (dVar 4) (dVar 7)) (dVar 10)) (dCon (.str ("even" : Str)))) (dCmpT (opEq false) (dBin opIx (dBin opIx (dVar 4) (dVar 8)) (dVar 10)) (dCon (.str ("even" : Str))))) (dVar 10)) (dgName 9))
    (dSeq (dIte (dAnd (dCmpT (opCmp fun i j => decide (i < j)) (dCallF 2 (dCons (dVar 0) (dCons (dCon (.int 10)) dNil)) fn_lawdraw) (dVar 2)) (dCmpT (opEq false) (dVar 9) (dLst false dNil)))
    (dSeq (dAsg (dTup (dCons (dCon (.str ("even" : Str))) (dCons (dCon (.str ("even" : Str))) dNil))) (dgTup 2 (dgCons (dgSub (dBin opIx (dVar 4) (dVar 7)) (dVar 8)) (dgCons (dgSub (dBin opIx (dVar 4) (dVar 8)) (dVar 7)) dgNil))))
    dSkip) (dSeq (dAsg (dTup (dCons (dCon (.str ("stand" : Str))) (dCons (dCon (.str ("bow" : Str))) dNil))) (dgTup 2 (dgCons (dgSub (dBin opIx (dVar 4) (dVar 7)) (dVar 8)) (dgCons (dgSub (dBin opIx (dVar 4) (dVar 8)) (dVar 7)) dgNil))))
    dSkip))
    dSkip))))
    dSkip))
    (dSeq (dRet (dCall opTuple (dCons (dLc false [3] (dSeqI (dVar 4)) (dgName 3) dYes (dCall opTuple (dCons (dVar 3) dNil))) dNil)))
    dSkip)))
def fn_lawranked : DF := dDef 11 d_lawranked
theorem ok_lawranked {P : Program} {w : World} {K : PySem.W.Frag} {mg : Str → Option Value} {base : Heap} {T : List Addr} (m_list : mg "list" = none) (m_range : mg "range" = none) (m_tuple : mg "tuple" = none) (C_lawdraw : Cal P w K mg base T 1 "_law_draw" s_lawdraw ["bag", "many"] fn_lawdraw) (C_lawmixed : Cal P w K mg base T 2 "_law_mixed" s_lawmixed ["bag", "some"] fn_lawmixed) {f : Addr} (cdv : Value) (A : Around) (outer : List Env) (s : Shared) (H : Hp) (E : XK) (hA : Clr A) (hR : Room 2 (A.deeper (envOfC "_law_ranked" (defScope s_lawranked) s.heap.objs.size f cdv))) :
    PSs (cxOf (L2.CX P w) P w K mg base ["bag", "hands", "many", "row", "rows", "at", "far", "own", "mate", "close", "hand"] "_law_ranked" (defScope s_lawranked) f cdv A outer s H E) (defBody s_lawranked) (sD K T d_lawranked) := by
  have Ft : Fit (cxOf (L2.CX P w) P w K mg base ["bag", "hands", "many", "row", "rows", "at", "far", "own", "mate", "close", "hand"] "_law_ranked" (defScope s_lawranked) f cdv A outer s H E) 2 := fit_cx sc_lawranked hA hR
  exact (rSeq (sAsg (I := [3, 4]) (rTup (rCons (eCal C_lawmixed Ft (by decide) rfl (rCons (eName 0 rfl (.inl rfl)) (rCons (eLrg false Ft.calm rfl m_list rfl m_range (eName 1 rfl (.inr (.inl rfl))) rfl rfl) rNil rfl) rfl)) (rCons (rLc (c := true) Ft.calm Ft.nd (iRng1' m_range rfl (rCons (eName 1 rfl (.inr (.inl rfl))) rNil rfl) rfl) (own := [("own", 7)]) (blk_by (by exact rfl)) (fun _ _ _ _ _ => (gName' 7 (by decide) (fit_blk Ft _ _ _ _ _).nd rfl (.inl rfl) (.inr rfl))) (fun _ _ _ _ _ => rtNil) (fun _ _ _ _ _ => (eMulA true (rLst (c := false) (rCons eStr rNil rfl)) (eName 1 rfl (.inr (.inl rfl)))))) rNil rfl) rfl)) (gTup' Ft.calm (rgCons (gName' 3 (by decide) Ft.nd rfl (.inl rfl) (.inr rfl)) (rgCons (gName' 4 (by decide) Ft.nd rfl (.inr rfl) (.inl rfl)) rgNil rfl) rfl) rfl rfl) rfl rfl rfl)
    (rSeq (sFor (I := [5]) (passes_of rfl) rfl (iRng1' m_range rfl (rCons (eName 1 rfl (.inr (.inl rfl))) rNil rfl) rfl) (gName' 5 (by decide) Ft.nd rfl (.inl rfl) (.inr rfl))
    (rSeq (sFor (I := [6]) (passes_of rfl) rfl (iRng1' m_range rfl (rCons (eName 5 rfl (.inl rfl)) rNil rfl) rfl) (gName' 6 (by decide) Ft.nd rfl (.inl rfl) (.inr rfl))
    (rSeq (sAsg (I := [7, 8]) (rTup (rCons (eIx Ft (eName 3 rfl (.inl rfl)) (eName 6 rfl (.inl rfl)) (fun _ _ => rfl)) (rCons (eIx Ft (eName 3 rfl (.inl rfl)) (eName 5 rfl (.inl rfl)) (fun _ _ => rfl)) rNil rfl) rfl)) (gTup' Ft.calm (rgCons (gName' 7 (by decide) Ft.nd rfl (.inr rfl) (.inl rfl)) (rgCons (gName' 8 (by decide) Ft.nd rfl (.inr rfl) (.inl rfl)) rgNil rfl) rfl) rfl rfl) rfl rfl rfl)
    (rSeq (rSetLc (i := 9) (c := false) Ft.calm Ft.nd rfl rfl rfl (iRng1' m_range rfl (rCons (eName 1 rfl (.inr (.inl rfl))) rNil rfl) rfl) (own := [("hand", 10)]) (blk_by (by exact rfl)) (fun _ _ _ _ _ => (gName' 10 (by decide) (fit_blk Ft _ _ _ _ _).nd rfl (.inl rfl) (.inr rfl))) (fun _ _ _ _ _ => (rtOne (PW.pt (wAnd (tEq (fit_blk Ft _ _ _ _ _) (eIx (fit_blk Ft _ _ _ _ _) (eIx (fit_blk Ft _ _ _ _ _) (eName 4 rfl (.inr (.inl rfl))) (eName 7 rfl (.inr (.inl rfl))) (fun _ _ => rfl)) (eName 10 rfl (.inl rfl)) (fun _ _ => rfl)) eStr) (wAnd1 (tEq (fit_blk Ft _ _ _ _ _) (eIx (fit_blk Ft _ _ _ _ _) (eIx (fit_blk Ft _ _ _ _ _) (eName 4 rfl (.inr (.inl rfl))) (eName 8 rfl (.inr (.inl rfl))) (fun _ _ => rfl)) (eName 10 rfl (.inl rfl)) (fun _ _ => rfl)) eStr)))))) (fun _ _ _ _ _ => (eName 10 rfl (.inl rfl))))
    (rSeq (rIte (PW.pt (wAnd (tLt (eCal C_lawdraw Ft (by decide) rfl (rCons (eName 0 rfl (.inl rfl)) (rCons eInt rNil rfl) rfl)) (eName 2 rfl (.inl rfl))) (wAnd1 (tEq Ft (eName 9 rfl (.inl rfl)) (rLst (c := false) rNil)))))
    (rSeq (sAsg (I := []) (rTup (rCons eStr (rCons eStr rNil rfl) rfl)) (gTup' Ft.calm (rgCons (gSub' Ft (eIx Ft (eName 4 rfl (.inr (.inl rfl))) (eName 7 rfl (.inr (.inl rfl))) (fun _ _ => rfl)) (eName 8 rfl (.inr (.inl rfl))) (by intro _; rfl)) (rgCons (gSub' Ft (eIx Ft (eName 4 rfl (.inr (.inl rfl))) (eName 8 rfl (.inr (.inl rfl))) (fun _ _ => rfl)) (eName 7 rfl (.inr (.inl rfl))) (by intro _; rfl)) rgNil rfl) rfl) rfl rfl) rfl rfl rfl)
    rSkip) (rSeq (sAsg (I := []) (rTup (rCons eStr (rCons eStr rNil rfl) rfl)) (gTup' Ft.calm (rgCons (gSub' Ft (eIx Ft (eName 4 rfl (.inr (.inl rfl))) (eName 7 rfl (.inr (.inl rfl))) (fun _ _ => rfl)) (eName 8 rfl (.inr (.inl rfl))) (by intro _; rfl)) (rgCons (gSub' Ft (eIx Ft (eName 4 rfl (.inr (.inl rfl))) (eName 8 rfl (.inr (.inl rfl))) (fun _ _ => rfl)) (eName 7 rfl (.inr (.inl rfl))) (by intro _; rfl)) rgNil rfl) rfl) rfl rfl) rfl rfl rfl)
    rSkip))
    rSkip))) (fun _ => rfl))
    rSkip) (fun _ => rfl))
    (rSeq (rRet (eTupOf m_tuple rfl (rCons (rLc (c := false) Ft.calm Ft.nd (iSeq (eName 4 rfl (.inr (.inl rfl)))) (own := [("row", 3)]) (blk_by (by exact rfl)) (fun _ _ _ _ _ => (gName' 3 (by decide) (fit_blk Ft _ _ _ _ _).nd rfl (.inl rfl) (.inr rfl))) (fun _ _ _ _ _ => rtNil) (fun _ _ _ _ _ => (eTupOf m_tuple rfl (rCons (eName 3 rfl (.inl rfl)) rNil rfl)))) rNil rfl)))
    rSkip)))
abbrev s_lawwith : Stmt := topS 39
theorem sc_lawwith : FnScope ["table", "own", "mate", "deals", "rows", "row"] ["table", "own", "mate", "deals"] (defScope s_lawwith) := ⟨rfl, rfl, rfl, by decide +kernel, rfl, by decide +kernel, by decide +kernel⟩
def d_lawwith : DS :=
    (dSeq (dAsg (dCallF 1 (dCons (dVar 0) dNil) fn_lawrows) (dgName 4))
    (dSeq (dAsg (dVar 3) (dgTup 2 (dgCons (dgSub (dBin opIx (dVar 4) (dVar 1)) (dVar 2)) (dgCons (dgSub (dBin opIx (dVar 4) (dVar 2)) (dVar 1)) dgNil))))
    (dSeq (dRet (dCall opTuple (dCons (dLc false [5] (dSeqI (dVar 4)) (dgName 5) dYes (dCall opTuple (dCons (dVar 5) dNil))) dNil)))
    dSkip)))
def fn_lawwith : DF := dDef 6 d_lawwith
theorem ok_lawwith {P : Program} {w : World} {K : PySem.W.Frag} {mg : Str → Option Value} {base : Heap} {T : List Addr} (m_tuple : mg "tuple" = none) (C_lawrows : Cal P w K mg base T 1 "_law_rows" s_lawrows ["table"] fn_lawrows) {f : Addr} (cdv : Value) (A : Around) (outer : List Env) (s : Shared) (H : Hp) (E : XK) (hA : Clr A) (hR : Room 1 (A.deeper (envOfC "_law_with" (defScope s_lawwith) s.heap.objs.size f cdv))) :
    PSs (cxOf (L2.CX P w) P w K mg base ["table", "own", "mate", "deals", "rows", "row"] "_law_with" (defScope s_lawwith) f cdv A outer s H E) (defBody s_lawwith) (sD K T d_lawwith) := by
  have Ft : Fit (cxOf (L2.CX P w) P w K mg base ["table", "own", "mate", "deals", "rows", "row"] "_law_with" (defScope s_lawwith) f cdv A outer s H E) 1 := fit_cx sc_lawwith hA hR
  exact (rSeq (sSet 4 Ft.nd rfl (.inl rfl) (eCal C_lawrows Ft (by decide) rfl (rCons (eName 0 rfl (.inl rfl)) rNil rfl)) rfl (.inl rfl))
    (rSeq (sAsg (I := []) (eName 3 rfl (.inl rfl)) (gTup' Ft.calm (rgCons (gSub' Ft (eIx Ft (eName 4 rfl (.inl rfl)) (eName 1 rfl (.inl rfl)) (fun _ _ => rfl)) (eName 2 rfl (.inl rfl)) (by intro _; rfl)) (rgCons (gSub' Ft (eIx Ft (eName 4 rfl (.inl rfl)) (eName 2 rfl (.inl rfl)) (fun _ _ => rfl)) (eName 1 rfl (.inl rfl)) (by intro _; rfl)) rgNil rfl) rfl) rfl rfl) rfl rfl rfl)
    (rSeq (rRet (eTupOf m_tuple rfl (rCons (rLc (c := false) Ft.calm Ft.nd (iSeq (eName 4 rfl (.inl rfl))) (own := [("row", 5)]) (blk_by (by exact rfl)) (fun _ _ _ _ _ => (gName' 5 (by decide) (fit_blk Ft _ _ _ _ _).nd rfl (.inl rfl) (.inr rfl))) (fun _ _ _ _ _ => rtNil) (fun _ _ _ _ _ => (eTupOf m_tuple rfl (rCons (eName 5 rfl (.inl rfl)) rNil rfl)))) rNil rfl)))
    rSkip)))
abbrev s_lawturned : Stmt := topS 40
theorem sc_lawturned : FnScope ["bag", "table", "many", "menu", "turn", "own", "mate"] ["bag", "table", "many"] (defScope s_lawturned) := ⟨rfl, rfl, rfl, by decide +kernel, rfl, by decide +kernel, by decide +kernel⟩
def d_lawturned : DS :=
    (dSeq (dAsg (dLst false (dCons (dTup (dCons (dCon (.str ("stand" : Str))) (dCons (dCon (.str ("bow" : Str))) dNil))) (dCons (dTup (dCons (dCon (.str ("bow" : Str))) (dCons (dCon (.str ("stand" : Str))) dNil))) (dCons (dTup (dCons (dCon (.str ("even" : Str))) (dCons (dCon (.str ("even" : Str))) dNil))) (dCons (dTup (dCons (dCon (.str ("stand" : Str))) (dCons (dCon (.str ("stand" : Str))) dNil))) (dCons (dTup (dCons (dCon (.str ("bow" : Str))) (dCons (dCon (.str ("bow" : Str))) dNil))) dNil)))))) (dgName 3))
    (dSeq (dFor (dRng1 (dCons (dVar 2) dNil)) (dgName 4)
    (dSeq (dAsg (dSlG false (dCallF 2 (dCons (dVar 0) (dCons (dLrg false (dCall opLen (dCons (dVar 1) dNil))) dNil)) fn_lawmixed) doNone (doSome (dCon (.int 2)))) (dgLst 2 (dgCons (dgName 5) (dgCons (dgName 6) dgNil))))
    (dSeq (dAsg (dCallF 4 (dCons (dVar 1) (dCons (dVar 5) (dCons (dVar 6) (dCons (dCallF 2 (dCons (dVar 0) (dCons (dVar 3) dNil)) fn_lawpick) dNil)))) fn_lawwith) (dgName 1))
    dSkip)))
    (dSeq (dRet (dVar 1))
    dSkip)))
def fn_lawturned : DF := dDef 7 d_lawturned
theorem ok_lawturned {P : Program} {w : World} {K : PySem.W.Frag} {mg : Str → Option Value} {base : Heap} {T : List Addr} (m_len : mg "len" = none) (m_list : mg "list" = none) (m_range : mg "range" = none) (C_lawwith : Cal P w K mg base T 2 "_law_with" s_lawwith ["table", "own", "mate", "deals"] fn_lawwith) (C_lawpick : Cal P w K mg base T 2 "_law_pick" s_lawpick ["bag", "some"] fn_lawpick) (C_lawmixed : Cal P w K mg base T 2 "_law_mixed" s_lawmixed ["bag", "some"] fn_lawmixed) {f : Addr} (cdv : Value) (A : Around) (outer : List Env) (s : Shared) (H : Hp) (E : XK) (hA : Clr A) (hR : Room 2 (A.deeper (envOfC "_law_turned" (defScope s_lawturned) s.heap.objs.size f cdv))) :
    PSs (cxOf (L2.CX P w) P w K mg base ["bag", "table", "many", "menu", "turn", "own", "mate"] "_law_turned" (defScope s_lawturned) f cdv A outer s H E) (defBody s_lawturned) (sD K T d_lawturned) := by
  have Ft : Fit (cxOf (L2.CX P w) P w K mg base ["bag", "table", "many", "menu", "turn", "own", "mate"] "_law_turned" (defScope s_lawturned) f cdv A outer s H E) 2 := fit_cx sc_lawturned hA hR
  exact (rSeq (sSet 3 Ft.nd rfl (.inl rfl) (rLst (c := false) (rCons (rTup (rCons eStr (rCons eStr rNil rfl) rfl)) (rCons (rTup (rCons eStr (rCons eStr rNil rfl) rfl)) (rCons (rTup (rCons eStr (rCons eStr rNil rfl) rfl)) (rCons (rTup (rCons eStr (rCons eStr rNil rfl) rfl)) (rCons (rTup (rCons eStr (rCons eStr rNil rfl) rfl)) rNil rfl) rfl) rfl) rfl) rfl)) rfl (.inl rfl))
    (rSeq (sFor (I := [4]) (passes_of rfl) rfl (iRng1' m_range rfl (rCons (eName 2 rfl (.inl rfl)) rNil rfl) rfl) (gName' 4 (by decide) Ft.nd rfl (.inl rfl) (.inr rfl))
    (rSeq (sAsg (I := [5, 6]) (rSlG (c := false) (eCal C_lawmixed Ft (by decide) rfl (rCons (eName 0 rfl (.inl rfl)) (rCons (eLrg false Ft.calm rfl m_list rfl m_range (eLen m_len rfl (rCons (eName 1 rfl (.inl rfl)) rNil rfl)) rfl rfl) rNil rfl) rfl)) roNone (roSome eInt)) (gLst' Ft.calm (rgCons (gName' 5 (by decide) Ft.nd rfl (.inl rfl) (.inr rfl)) (rgCons (gName' 6 (by decide) Ft.nd rfl (.inl rfl) (.inr rfl)) rgNil rfl) rfl) rfl rfl) rfl rfl rfl)
    (rSeq (sSet 1 Ft.nd rfl (.inl rfl) (eCal C_lawwith Ft (by decide) rfl (rCons (eName 1 rfl (.inl rfl)) (rCons (eName 5 rfl (.inl rfl)) (rCons (eName 6 rfl (.inl rfl)) (rCons (eCal C_lawpick Ft (by decide) rfl (rCons (eName 0 rfl (.inl rfl)) (rCons (eName 3 rfl (.inl rfl)) rNil rfl) rfl)) rNil rfl) rfl) rfl) rfl)) rfl (.inl rfl))
    rSkip)) (fun _ => rfl))
    (rSeq (rRet (eName 1 rfl (.inl rfl)))
    rSkip)))
abbrev s_lawplain : Stmt := topS 41
theorem sc_lawplain : FnScope ["bag", "hands", "fork", "many", "table", "row", "own", "mate"] ["bag", "hands"] (defScope s_lawplain) := ⟨rfl, rfl, rfl, by decide +kernel, rfl, by decide +kernel, by decide +kernel⟩
def d_lawplain : DS :=
    (dSeq (dPar 2 3 (dCons (dCallF 2 (dCons (dVar 0) (dCons (dCon (.int 7)) dNil)) fn_lawdraw) (dCons (dCallF 2 (dCons (dVar 0) (dCons (dLst false (dCons (dCon (.int 0)) (dCons (dCon (.int 2)) (dCons (dCon (.int 3)) (dCons (dCon (.int 5)) (dCons (dCon (.int 9)) dNil)))))) dNil)) fn_lawpick) dNil)))
    (dSeq (dIte (dCmpT (opEq false) (dVar 2) (dCon (.int 0)))
    (dSeq (dRet (dCallF 4 (dCons (dVar 0) (dCons (dVar 1) (dCons (dLst false (dCons (dCon (.str ("stand" : Str))) (dCons (dCon (.str ("bow" : Str))) dNil))) (dCons (dVar 3) dNil)))) fn_lawtable))
    dSkip) dSkip)
    (dSeq (dAsg (dCallF 3 (dCons (dVar 0) (dCons (dCallF 3 (dCons (dVar 0) (dCons (dVar 1) (dCons (dVar 3) dNil))) fn_lawranked) (dCons (dBin opIx (dLst false (dCons (dCon (.int 0)) (dCons (dCon (.int 0)) (dCons (dCon (.int 1)) (dCons (dCon (.int 1)) (dCons (dCon (.int 2)) (dCons (dCon (.int 3)) (dCons (dCon (.int 0)) dNil)))))))) (dVar 2)) dNil))) fn_lawturned) (dgName 4))
    (dSeq (dIte (dCmpT (opEq false) (dVar 2) (dCon (.int 6)))
    (dSeq (dAsg (dSlG false (dCallF 2 (dCons (dVar 0) (dCons (dLrg false (dVar 1)) dNil)) fn_lawmixed) doNone (doSome (dBin (opAdd false) (dCallF 2 (dCons (dVar 0) (dCons (dVar 1) dNil)) fn_lawdraw) (dCon (.int 1))))) (dgName 5))
    (dSeq (dFor (dZipL (dCons (dVar 5) (dCons (dBin (opAdd false) (dSlG false (dVar 5) (doSome (dCon (.int 1))) doNone) (dSlG false (dVar 5) doNone (doSome (dCon (.int 1))))) dNil))) (dgTup 2 (dgCons (dgName 6) (dgCons (dgName 7) dgNil)))
    (dSeq (dAsg (dIf (dCmpT (opCmp fun i j => decide (j < i)) (dCall opLen (dCons (dVar 5) dNil)) (dCon (.int 2))) (dCallF 4 (dCons (dVar 4) (dCons (dVar 6) (dCons (dVar 7) (dCons (dTup (dCons (dCon (.str ("bow" : Str))) (dCons (dCon (.str ("stand" : Str))) dNil))) dNil)))) fn_lawwith) (dVar 4)) (dgName 4))
    dSkip))
    dSkip)) dSkip)
    (dSeq (dRet (dVar 4))
    dSkip)))))
def fn_lawplain : DF := dDef 8 d_lawplain
theorem ok_lawplain {P : Program} {w : World} {K : PySem.W.Frag} {mg : Str → Option Value} {base : Heap} {T : List Addr} (m_len : mg "len" = none) (m_list : mg "list" = none) (m_range : mg "range" = none) (m_zip : mg "zip" = none) (C_lawwith : Cal P w K mg base T 2 "_law_with" s_lawwith ["table", "own", "mate", "deals"] fn_lawwith) (C_lawmixed : Cal P w K mg base T 2 "_law_mixed" s_lawmixed ["bag", "some"] fn_lawmixed) (C_lawdraw : Cal P w K mg base T 1 "_law_draw" s_lawdraw ["bag", "many"] fn_lawdraw) (C_lawturned : Cal P w K mg base T 3 "_law_turned" s_lawturned ["bag", "table", "many"] fn_lawturned) (C_lawranked : Cal P w K mg base T 3 "_law_ranked" s_lawranked ["bag", "hands", "many"] fn_lawranked) (C_lawtable : Cal P w K mg base T 3 "_law_table" s_lawtable ["bag", "hands", "menu", "many"] fn_lawtable) (C_lawpick : Cal P w K mg base T 2 "_law_pick" s_lawpick ["bag", "some"] fn_lawpick) {f : Addr} (cdv : Value) (A : Around) (outer : List Env) (s : Shared) (H : Hp) (E : XK) (hA : Clr A) (hR : Room 3 (A.deeper (envOfC "_law_plain" (defScope s_lawplain) s.heap.objs.size f cdv))) :
    PSs (cxOf (L2.CX P w) P w K mg base ["bag", "hands", "fork", "many", "table", "row", "own", "mate"] "_law_plain" (defScope s_lawplain) f cdv A outer s H E) (defBody s_lawplain) (sD K T d_lawplain) := by
  have Ft : Fit (cxOf (L2.CX P w) P w K mg base ["bag", "hands", "fork", "many", "table", "row", "own", "mate"] "_law_plain" (defScope s_lawplain) f cdv A outer s H E) 3 := fit_cx sc_lawplain hA hR
  exact (rSeq (sPar 2 3 Ft.calm Ft.nd rfl rfl (by decide) rfl rfl (rCons (eCal C_lawdraw Ft (by decide) rfl (rCons (eName 0 rfl (.inl rfl)) (rCons eInt rNil rfl) rfl)) (rCons (eCal C_lawpick Ft (by decide) rfl (rCons (eName 0 rfl (.inl rfl)) (rCons (rLst (c := false) (rCons eInt (rCons eInt (rCons eInt (rCons eInt (rCons eInt rNil rfl) rfl) rfl) rfl) rfl)) rNil rfl) rfl)) rNil rfl) rfl) rfl rfl)
    (rSeq (rIte (tEq Ft (eName 2 rfl (.inl rfl)) eInt)
    (rSeq (rRet (eCal C_lawtable Ft (by decide) rfl (rCons (eName 0 rfl (.inl rfl)) (rCons (eName 1 rfl (.inl rfl)) (rCons (rLst (c := false) (rCons eStr (rCons eStr rNil rfl) rfl)) (rCons (eName 3 rfl (.inl rfl)) rNil rfl) rfl) rfl) rfl)))
    rSkip) rSkip)
    (rSeq (sSet 4 Ft.nd rfl (.inl rfl) (eCal C_lawturned Ft (by decide) rfl (rCons (eName 0 rfl (.inl rfl)) (rCons (eCal C_lawranked Ft (by decide) rfl (rCons (eName 0 rfl (.inl rfl)) (rCons (eName 1 rfl (.inl rfl)) (rCons (eName 3 rfl (.inl rfl)) rNil rfl) rfl) rfl)) (rCons (eIx Ft (rLst (c := false) (rCons eInt (rCons eInt (rCons eInt (rCons eInt (rCons eInt (rCons eInt (rCons eInt rNil rfl) rfl) rfl) rfl) rfl) rfl) rfl)) (eName 2 rfl (.inl rfl)) (fun _ _ => rfl)) rNil rfl) rfl) rfl)) rfl (.inl rfl))
    (rSeq (rIte (tEq Ft (eName 2 rfl (.inl rfl)) eInt)
    (rSeq (sSet 5 Ft.nd rfl (.inl rfl) (rSlG (c := false) (eCal C_lawmixed Ft (by decide) rfl (rCons (eName 0 rfl (.inl rfl)) (rCons (eLrg false Ft.calm rfl m_list rfl m_range (eName 1 rfl (.inl rfl)) rfl rfl) rNil rfl) rfl)) roNone (roSome (eAdd false (eCal C_lawdraw Ft (by decide) rfl (rCons (eName 0 rfl (.inl rfl)) (rCons (eName 1 rfl (.inl rfl)) rNil rfl) rfl)) eInt))) rfl (.inl rfl))
    (rSeq (sFor (I := [6, 7]) (passes_of rfl) rfl (iZipL' m_zip rfl (rCons (eName 5 rfl (.inl rfl)) (rCons (eAdd false (rSlG (c := false) (eName 5 rfl (.inl rfl)) (roSome eInt) roNone) (rSlG (c := false) (eName 5 rfl (.inl rfl)) roNone (roSome eInt))) rNil rfl) rfl)) (gTup' Ft.calm (rgCons (gName' 6 (by decide) Ft.nd rfl (.inl rfl) (.inr rfl)) (rgCons (gName' 7 (by decide) Ft.nd rfl (.inl rfl) (.inr rfl)) rgNil rfl) rfl) rfl rfl)
    (rSeq (sSet 4 Ft.nd rfl (.inl rfl) (rIf (tGt (eLen m_len rfl (rCons (eName 5 rfl (.inl rfl)) rNil rfl)) eInt) (eCal C_lawwith Ft (by decide) rfl (rCons (eName 4 rfl (.inl rfl)) (rCons (eName 6 rfl (.inl rfl)) (rCons (eName 7 rfl (.inl rfl)) (rCons (rTup (rCons eStr (rCons eStr rNil rfl) rfl)) rNil rfl) rfl) rfl) rfl)) (eName 4 rfl (.inl rfl))) rfl (.inl rfl))
    rSkip) (fun _ => rfl))
    rSkip)) rSkip)
    (rSeq (rRet (eName 4 rfl (.inl rfl)))
    rSkip)))))
abbrev s_lawbowring : Stmt := topS 42
theorem sc_lawbowring : FnScope ["table", "rows", "number", "longer", "row", "near", "closed", "own"] ["table"] (defScope s_lawbowring) := ⟨rfl, rfl, rfl, by decide +kernel, rfl, by decide +kernel, by decide +kernel⟩
def d_lawbowring : DS :=
    (dSeq (dAsg (dLc false [7] (dRng1 (dCons (dCall opLen (dCons (dVar 0) dNil)) dNil)) (dgName 7) dYes (dTup (dCons (dVar 7) dNil))) (dgName 1))
    (dSeq (dFor (dRng2 (dCons (dCon (.int 2)) (dCons (dBin (opAdd false) (dCall opLen (dCons (dVar 0) dNil)) (dCon (.int 1))) dNil))) (dgName 2)
    (dSeq (dAsg (dLst true dNil) (dgName 3))
    (dSeq (dFor (dSeqI (dVar 1)) (dgName 4)
    (dSeq (dAsg (dLc false [7] (dRng2 (dCons (dBin (opAdd false) (dBin opIx (dVar 4) (dCon (.int 0))) (dCon (.int 1))) (dCons (dCall opLen (dCons (dVar 0) dNil)) dNil))) (dgName 7) (dCmpT (opIn true) (dVar 7) (dVar 4)) (dVar 7)) (dgName 5))
    (dSeq (dExpr (dMeth "list" opExtend (dVar 3) (dCons (dLc false [7] (dSeqI (dVar 5)) (dgName 7) (dCmpT (opEq false) (dBin opIx (dBin opIx (dVar 0) (dBin opIx (dVar 4) (dUn opNeg (dCon (.int 1))))) (dVar 7)) (dCon (.str ("bow" : Str)))) (dBin (opAdd false) (dVar 4) (dTup (dCons (dVar 7) dNil)))) dNil)))
    dSkip)))
    (dSeq (dAsg (dVar 3) (dgName 1))
    (dSeq (dAsg (dCall (opSortedL false) (dCons (dLc false [4] (dSeqI (dVar 1)) (dgName 4) (dCmpT (opEq false) (dBin opIx (dBin opIx (dVar 0) (dBin opIx (dVar 4) (dUn opNeg (dCon (.int 1))))) (dBin opIx (dVar 4) (dCon (.int 0)))) (dCon (.str ("bow" : Str)))) (dVar 4)) dNil)) (dgName 6))
    (dSeq (dIte (dCmpT (opEq true) (dVar 6) (dLst false dNil))
    (dSeq (dRet (dBin opIx (dVar 6) (dCon (.int 0))))
    dSkip) dSkip)
    dSkip))))))
    (dSeq (dRet (dCon .non))
    dSkip)))
def fn_lawbowring : DF := dDef 8 d_lawbowring
theorem ok_lawbowring {P : Program} {w : World} {K : PySem.W.Frag} {mg : Str → Option Value} {base : Heap} {T : List Addr} (m_len : mg "len" = none) (m_range : mg "range" = none) (m_sorted : mg "sorted" = none) {f : Addr} (cdv : Value) (A : Around) (outer : List Env) (s : Shared) (H : Hp) (E : XK) (hA : Clr A) (hR : Room 0 (A.deeper (envOfC "_law_bow_ring" (defScope s_lawbowring) s.heap.objs.size f cdv))) :
    PSs (cxOf (L2.CX P w) P w K mg base ["table", "rows", "number", "longer", "row", "near", "closed", "own"] "_law_bow_ring" (defScope s_lawbowring) f cdv A outer s H E) (defBody s_lawbowring) (sD K T d_lawbowring) := by
  have Ft : Fit (cxOf (L2.CX P w) P w K mg base ["table", "rows", "number", "longer", "row", "near", "closed", "own"] "_law_bow_ring" (defScope s_lawbowring) f cdv A outer s H E) 0 := fit_cx sc_lawbowring hA hR
  exact (rSeq (rSetLc (i := 1) (c := false) Ft.calm Ft.nd rfl rfl rfl (iRng1' m_range rfl (rCons (eLen m_len rfl (rCons (eName 0 rfl (.inr (.inl rfl))) rNil rfl)) rNil rfl) rfl) (own := [("own", 7)]) (blk_by (by exact rfl)) (fun _ _ _ _ _ => (gName' 7 (by decide) (fit_blk Ft _ _ _ _ _).nd rfl (.inl rfl) (.inr rfl))) (fun _ _ _ _ _ => rtNil) (fun _ _ _ _ _ => (rTup (rCons (eName 7 rfl (.inl rfl)) rNil rfl))))
    (rSeq (sFor (I := [2]) (passes_of rfl) rfl (iRng2' m_range rfl (rCons eInt (rCons (eAdd false (eLen m_len rfl (rCons (eName 0 rfl (.inr (.inl rfl))) rNil rfl)) eInt) rNil rfl) rfl) rfl rfl) (gName' 2 (by decide) Ft.nd rfl (.inl rfl) (.inr rfl))
    (rSeq (sSet 3 Ft.nd rfl (.inl rfl) (rLst (c := true) rNil) rfl (.inl rfl))
    (rSeq (sFor (I := [4]) (passes_of rfl) rfl (iSeq (eName 1 rfl (.inl rfl))) (gName' 4 (by decide) Ft.nd rfl (.inr rfl) (.inl rfl))
    (rSeq (rSetLc (i := 5) (c := false) Ft.calm Ft.nd rfl rfl rfl (iRng2' m_range rfl (rCons (eAdd false (eIx Ft (eName 4 rfl (.inr (.inl rfl))) eInt (fun _ _ => rfl)) eInt) (rCons (eLen m_len rfl (rCons (eName 0 rfl (.inr (.inl rfl))) rNil rfl)) rNil rfl) rfl) rfl rfl) (own := [("own", 7)]) (blk_by (by exact rfl)) (fun _ _ _ _ _ => (gName' 7 (by decide) (fit_blk Ft _ _ _ _ _).nd rfl (.inl rfl) (.inr rfl))) (fun _ _ _ _ _ => (rtOne (tNotIn (fit_blk Ft _ _ _ _ _) (eName 7 rfl (.inl rfl)) (eName 4 rfl (.inr (.inl rfl))) rfl))) (fun _ _ _ _ _ => (eName 7 rfl (.inl rfl))))
    (rSeq (rExpr (eExtend (eName 3 rfl (.inl rfl)) (rCons (rLc (c := false) Ft.calm Ft.nd (iSeq (eName 5 rfl (.inl rfl))) (own := [("own", 7)]) (blk_by (by exact rfl)) (fun _ _ _ _ _ => (gName' 7 (by decide) (fit_blk Ft _ _ _ _ _).nd rfl (.inl rfl) (.inr rfl))) (fun _ _ _ _ _ => (rtOne (tEq (fit_blk Ft _ _ _ _ _) (eIx (fit_blk Ft _ _ _ _ _) (eIx (fit_blk Ft _ _ _ _ _) (eName 0 rfl (.inr (.inl rfl))) (eIx (fit_blk Ft _ _ _ _ _) (eName 4 rfl (.inr (.inl rfl))) (eNeg eInt) (fun _ _ => rfl)) (fun _ _ => rfl)) (eName 7 rfl (.inl rfl)) (fun _ _ => rfl)) eStr))) (fun _ _ _ _ _ => (eAdd false (eName 4 rfl (.inr (.inl rfl))) (rTup (rCons (eName 7 rfl (.inl rfl)) rNil rfl))))) rNil rfl) rfl rfl rfl rfl rfl) rfl)
    rSkip)) (fun _ => rfl))
    (rSeq (sSet 1 Ft.nd rfl (.inl rfl) (eName 3 rfl (.inl rfl)) rfl (.inl rfl))
    (rSeq (sSet 6 Ft.nd rfl (.inl rfl) (eSortedL false m_sorted rfl (rCons (rLc (c := false) Ft.calm Ft.nd (iSeq (eName 1 rfl (.inl rfl))) (own := [("row", 4)]) (blk_by (by exact rfl)) (fun _ _ _ _ _ => (gName' 4 (by decide) (fit_blk Ft _ _ _ _ _).nd rfl (.inl rfl) (.inr rfl))) (fun _ _ _ _ _ => (rtOne (tEq (fit_blk Ft _ _ _ _ _) (eIx (fit_blk Ft _ _ _ _ _) (eIx (fit_blk Ft _ _ _ _ _) (eName 0 rfl (.inr (.inl rfl))) (eIx (fit_blk Ft _ _ _ _ _) (eName 4 rfl (.inl rfl)) (eNeg eInt) (fun _ _ => rfl)) (fun _ _ => rfl)) (eIx (fit_blk Ft _ _ _ _ _) (eName 4 rfl (.inl rfl)) eInt (fun _ _ => rfl)) (fun _ _ => rfl)) eStr))) (fun _ _ _ _ _ => (eName 4 rfl (.inl rfl)))) rNil rfl)) rfl (.inl rfl))
    (rSeq (rIte (tNe Ft (eName 6 rfl (.inl rfl)) (rLst (c := false) rNil))
    (rSeq (rRet (eIx Ft (eName 6 rfl (.inl rfl)) eInt (fun _ _ => rfl)))
    rSkip) rSkip)
    rSkip))))) (fun _ => rfl))
    (rSeq (rRet eNon)
    rSkip)))
abbrev s_lawhurdle : Stmt := topS 43
theorem sc_lawhurdle : FnScope ["table", "ring", "hands", "own", "mate", "far"] ["table"] (defScope s_lawhurdle) := ⟨rfl, rfl, rfl, by decide +kernel, rfl, by decide +kernel, by decide +kernel⟩
def d_lawhurdle : DS :=
    (dSeq (dPar 1 2 (dCons (dCallF 1 (dCons (dVar 0) dNil) fn_lawbowring) (dCons (dLrg false (dCall opLen (dCons (dVar 0) dNil))) dNil)))
    (dSeq (dIte (dCmpT (opIsN true) (dVar 1) (dCon .non))
    (dSeq (dRet (dTup (dCons (dCon (.str ("bow" : Str))) (dCons (dVar 1) dNil))))
    dSkip) dSkip)
    (dSeq (dFor (dSeqI (dVar 2)) (dgName 3)
    (dSeq (dFor (dSeqI (dSlG false (dVar 2) (doSome (dBin (opAdd false) (dVar 3) (dCon (.int 1)))) doNone)) (dgName 4)
    (dSeq (dIte (dAnd (dCmpT (opEq false) (dBin opIx (dBin opIx (dVar 0) (dVar 3)) (dVar 4)) (dCon (.str ("stand" : Str)))) (dCmpT (opEq false) (dBin opIx (dBin opIx (dVar 0) (dVar 4)) (dVar 3)) (dCon (.str ("stand" : Str)))))
    (dSeq (dRet (dTup (dCons (dCon (.str ("stand" : Str))) (dCons (dVar 3) (dCons (dVar 4) dNil)))))
    dSkip) dSkip)
    dSkip))
    dSkip))
    (dSeq (dFor (dSeqI (dVar 2)) (dgName 3)
    (dSeq (dFor (dSeqI (dLc false [4] (dSeqI (dSlG false (dVar 2) (doSome (dBin (opAdd false) (dVar 3) (dCon (.int 1)))) doNone)) (dgName 4) (dCmpT (opEq false) (dBin opIx (dBin opIx (dVar 0) (dVar 3)) (dVar 4)) (dCon (.str ("even" : Str)))) (dVar 4))) (dgName 4)
    (dSeq (dFor (dSeqI (dSlG false (dVar 2) (doSome (dBin (opAdd false) (dVar 4) (dCon (.int 1)))) doNone)) (dgName 5)
    (dSeq (dIte (dAnd (dCmpT (opEq false) (dBin opIx (dBin opIx (dVar 0) (dVar 3)) (dVar 5)) (dCon (.str ("even" : Str)))) (dCmpT (opEq false) (dBin opIx (dBin opIx (dVar 0) (dVar 4)) (dVar 5)) (dCon (.str ("even" : Str)))))
    (dSeq (dRet (dTup (dCons (dCon (.str ("three" : Str))) (dCons (dVar 3) (dCons (dVar 4) (dCons (dVar 5) dNil))))))
    dSkip) dSkip)
    dSkip))
    dSkip))
    dSkip))
    (dSeq (dRet (dCon .non))
    dSkip)))))
def fn_lawhurdle : DF := dDef 6 d_lawhurdle
theorem ok_lawhurdle {P : Program} {w : World} {K : PySem.W.Frag} {mg : Str → Option Value} {base : Heap} {T : List Addr} (m_len : mg "len" = none) (m_list : mg "list" = none) (m_range : mg "range" = none) (C_lawbowring : Cal P w K mg base T 1 "_law_bow_ring" s_lawbowring ["table"] fn_lawbowring) {f : Addr} (cdv : Value) (A : Around) (outer : List Env) (s : Shared) (H : Hp) (E : XK) (hA : Clr A) (hR : Room 1 (A.deeper (envOfC "_law_hurdle" (defScope s_lawhurdle) s.heap.objs.size f cdv))) :
    PSs (cxOf (L2.CX P w) P w K mg base ["table", "ring", "hands", "own", "mate", "far"] "_law_hurdle" (defScope s_lawhurdle) f cdv A outer s H E) (defBody s_lawhurdle) (sD K T d_lawhurdle) := by
  have Ft : Fit (cxOf (L2.CX P w) P w K mg base ["table", "ring", "hands", "own", "mate", "far"] "_law_hurdle" (defScope s_lawhurdle) f cdv A outer s H E) 1 := fit_cx sc_lawhurdle hA hR
  exact (rSeq (sPar 1 2 Ft.calm Ft.nd rfl rfl (by decide) rfl rfl (rCons (eCal C_lawbowring Ft (by decide) rfl (rCons (eName 0 rfl (.inr (.inl rfl))) rNil rfl)) (rCons (eLrg false Ft.calm rfl m_list rfl m_range (eLen m_len rfl (rCons (eName 0 rfl (.inr (.inl rfl))) rNil rfl)) rfl rfl) rNil rfl) rfl) rfl rfl)
    (rSeq (rIte (tIsNot (eName 1 rfl (.inl rfl)) eNon)
    (rSeq (rRet (rTup (rCons eStr (rCons (eName 1 rfl (.inl rfl)) rNil rfl) rfl)))
    rSkip) rSkip)
    (rSeq (sFor (I := [3]) (passes_of rfl) rfl (iSeq (eName 2 rfl (.inl rfl))) (gName' 3 (by decide) Ft.nd rfl (.inr rfl) (.inl rfl))
    (rSeq (sFor (I := [4]) (passes_of rfl) rfl (iSeq (rSlG (c := false) (eName 2 rfl (.inl rfl)) (roSome (eAdd false (eName 3 rfl (.inr (.inl rfl))) eInt)) roNone)) (gName' 4 (by decide) Ft.nd rfl (.inl rfl) (.inr rfl))
    (rSeq (rIte (PW.pt (wAnd (tEq Ft (eIx Ft (eIx Ft (eName 0 rfl (.inr (.inl rfl))) (eName 3 rfl (.inr (.inl rfl))) (fun _ _ => rfl)) (eName 4 rfl (.inl rfl)) (fun _ _ => rfl)) eStr) (wAnd1 (tEq Ft (eIx Ft (eIx Ft (eName 0 rfl (.inr (.inl rfl))) (eName 4 rfl (.inl rfl)) (fun _ _ => rfl)) (eName 3 rfl (.inr (.inl rfl))) (fun _ _ => rfl)) eStr))))
    (rSeq (rRet (rTup (rCons eStr (rCons (eName 3 rfl (.inr (.inl rfl))) (rCons (eName 4 rfl (.inl rfl)) rNil rfl) rfl) rfl)))
    rSkip) rSkip)
    rSkip) (fun _ => rfl))
    rSkip) (fun _ => rfl))
    (rSeq (sFor (I := [3]) (passes_of rfl) rfl (iSeq (eName 2 rfl (.inl rfl))) (gName' 3 (by decide) Ft.nd rfl (.inr rfl) (.inl rfl))
    (rSeq (sFor (I := [4]) (passes_of rfl) rfl (iSeq (rLc (c := false) Ft.calm Ft.nd (iSeq (rSlG (c := false) (eName 2 rfl (.inl rfl)) (roSome (eAdd false (eName 3 rfl (.inr (.inl rfl))) eInt)) roNone)) (own := [("mate", 4)]) (blk_by (by exact rfl)) (fun _ _ _ _ _ => (gName' 4 (by decide) (fit_blk Ft _ _ _ _ _).nd rfl (.inl rfl) (.inr rfl))) (fun _ _ _ _ _ => (rtOne (tEq (fit_blk Ft _ _ _ _ _) (eIx (fit_blk Ft _ _ _ _ _) (eIx (fit_blk Ft _ _ _ _ _) (eName 0 rfl (.inr (.inl rfl))) (eName 3 rfl (.inr (.inl rfl))) (fun _ _ => rfl)) (eName 4 rfl (.inl rfl)) (fun _ _ => rfl)) eStr))) (fun _ _ _ _ _ => (eName 4 rfl (.inl rfl))))) (gName' 4 (by decide) Ft.nd rfl (.inl rfl) (.inr rfl))
    (rSeq (sFor (I := [5]) (passes_of rfl) rfl (iSeq (rSlG (c := false) (eName 2 rfl (.inl rfl)) (roSome (eAdd false (eName 4 rfl (.inl rfl)) eInt)) roNone)) (gName' 5 (by decide) Ft.nd rfl (.inl rfl) (.inr rfl))
    (rSeq (rIte (PW.pt (wAnd (tEq Ft (eIx Ft (eIx Ft (eName 0 rfl (.inr (.inl rfl))) (eName 3 rfl (.inr (.inl rfl))) (fun _ _ => rfl)) (eName 5 rfl (.inl rfl)) (fun _ _ => rfl)) eStr) (wAnd1 (tEq Ft (eIx Ft (eIx Ft (eName 0 rfl (.inr (.inl rfl))) (eName 4 rfl (.inl rfl)) (fun _ _ => rfl)) (eName 5 rfl (.inl rfl)) (fun _ _ => rfl)) eStr))))
    (rSeq (rRet (rTup (rCons eStr (rCons (eName 3 rfl (.inr (.inl rfl))) (rCons (eName 4 rfl (.inl rfl)) (rCons (eName 5 rfl (.inl rfl)) rNil rfl) rfl) rfl) rfl)))
    rSkip) rSkip)
    rSkip) (fun _ => rfl))
    rSkip) (fun _ => rfl))
    rSkip) (fun _ => rfl))
    (rSeq (rRet eNon)
    rSkip)))))
abbrev s_lawlike : Stmt := topS 44
theorem sc_lawlike : FnScope ["value", "due", "k"] ["value", "due"] (defScope s_lawlike) := ⟨rfl, rfl, rfl, by decide +kernel, rfl, by decide +kernel, by decide +kernel⟩
def d_lawlike (fn_lawlike : DF) : DS :=
    (dSeq (dIte (dTst (dIsi "tuple" (dVar 1)))
    (dSeq (dIte (dOr (dNot (dTst (dIsi "tuple" (dVar 0)))) (dCmpT (opEq true) (dCall opLen (dCons (dVar 0) dNil)) (dCall opLen (dCons (dVar 1) dNil))))
    (dSeq (dRet (dCon (.bl false)))
    dSkip) dSkip)
    (dSeq (dRet (dCall opAll (dCons (dLc false [2] (dRng1 (dCons (dCall opLen (dCons (dVar 1) dNil)) dNil)) (dgName 2) dYes (dCallF 2 (dCons (dBin opIx (dVar 0) (dVar 2)) (dCons (dBin opIx (dVar 1) (dVar 2)) dNil)) fn_lawlike)) dNil)))
    dSkip)) dSkip)
    (dSeq (dIte (dCmpT (opIsN false) (dVar 1) (dCon .non))
    (dSeq (dRet (dBin (opIsN false) (dVar 0) (dCon .non)))
    dSkip) dSkip)
    (dSeq (dIte (dTst (dIsi "bool" (dVar 1)))
    (dSeq (dRet (dAndV (dIsi "bool" (dVar 0)) (dBin (opEq false) (dVar 0) (dVar 1))))
    dSkip) dSkip)
    (dSeq (dIte (dTst (dIsi "int" (dVar 1)))
    (dSeq (dRet (dAndV (dIsi "int" (dVar 0)) (dAndV (dNotV (dIsi "bool" (dVar 0))) (dBin (opEq false) (dVar 0) (dVar 1)))))
    dSkip) dSkip)
    (dSeq (dRet (dAndV (dIsi "str" (dVar 0)) (dBin (opEq false) (dVar 0) (dVar 1))))
    dSkip)))))
def fN_lawlike : Nat → DF
  | 0 => dDef 3 dsNo
  | n + 1 => dDef 3 (d_lawlike (fN_lawlike n))
def fn_lawlike : DF := fN_lawlike 8
theorem ok_lawlike {P : Program} {w : World} {K : PySem.W.Frag} {mg : Str → Option Value} {base : Heap} {T : List Addr} (m_all : mg "all" = none) (m_bool : mg "bool" = none) (m_int : mg "int" = none) (m_isinstance : mg "isinstance" = none) (m_len : mg "len" = none) (m_range : mg "range" = none) (m_str : mg "str" = none) (m_tuple : mg "tuple" = none) {fn : DF} {r : Nat} (C_lawlike : Cal P w K mg base T r "_law_like" s_lawlike ["value", "due"] fn) {f : Addr} (cdv : Value) (A : Around) (outer : List Env) (s : Shared) (H : Hp) (E : XK) (hA : Clr A) (hR : Room r (A.deeper (envOfC "_law_like" (defScope s_lawlike) s.heap.objs.size f cdv))) :
    PSs (cxOf (L2.CX P w) P w K mg base ["value", "due", "k"] "_law_like" (defScope s_lawlike) f cdv A outer s H E) (defBody s_lawlike) (sD K T (d_lawlike fn)) := by
  have Ft : Fit (cxOf (L2.CX P w) P w K mg base ["value", "due", "k"] "_law_like" (defScope s_lawlike) f cdv A outer s H E) r := fit_cx sc_lawlike hA hR
  exact (rSeq (rIte (tVal (eIsi "tuple" (eName 1 rfl (.inr (.inl rfl))) m_isinstance rfl m_tuple rfl (by decide +kernel) (by decide) (by decide)) (by intro _; rfl))
    (rSeq (rIte (PW.pt (wOr (rNot (tVal (eIsi "tuple" (eName 0 rfl (.inr (.inl rfl))) m_isinstance rfl m_tuple rfl (by decide +kernel) (by decide) (by decide)) (by intro _; rfl))) (wOr1 (tNe Ft (eLen m_len rfl (rCons (eName 0 rfl (.inr (.inl rfl))) rNil rfl)) (eLen m_len rfl (rCons (eName 1 rfl (.inr (.inl rfl))) rNil rfl))))))
    (rSeq (rRet eBl)
    rSkip) rSkip)
    (rSeq (rRet (eAll Ft m_all rfl (rCons (rLc (c := false) Ft.calm Ft.nd (iRng1' m_range rfl (rCons (eLen m_len rfl (rCons (eName 1 rfl (.inr (.inl rfl))) rNil rfl)) rNil rfl) rfl) (own := [("k", 2)]) (blk_by (by exact rfl)) (fun _ _ _ _ _ => (gName' 2 (by decide) (fit_blk Ft _ _ _ _ _).nd rfl (.inl rfl) (.inr rfl))) (fun _ _ _ _ _ => rtNil) (fun _ _ _ _ _ => (eCal C_lawlike (fit_blk Ft _ _ _ _ _) (Nat.le_refl _) rfl (rCons (eIx (fit_blk Ft _ _ _ _ _) (eName 0 rfl (.inr (.inl rfl))) (eName 2 rfl (.inl rfl)) (fun _ _ => rfl)) (rCons (eIx (fit_blk Ft _ _ _ _ _) (eName 1 rfl (.inr (.inl rfl))) (eName 2 rfl (.inl rfl)) (fun _ _ => rfl)) rNil rfl) rfl)))) rNil rfl)))
    rSkip)) rSkip)
    (rSeq (rIte (tIs (eName 1 rfl (.inr (.inl rfl))) eNon)
    (rSeq (rRet (eIs (eName 0 rfl (.inr (.inl rfl))) eNon))
    rSkip) rSkip)
    (rSeq (rIte (tVal (eIsi "bool" (eName 1 rfl (.inr (.inl rfl))) m_isinstance rfl m_bool rfl (by decide +kernel) (by decide) (by decide)) (by intro _; rfl))
    (rSeq (rRet (rAndV (eIsi "bool" (eName 0 rfl (.inr (.inl rfl))) m_isinstance rfl m_bool rfl (by decide +kernel) (by decide) (by decide)) (pe_one (eEq Ft (eName 0 rfl (.inr (.inl rfl))) (eName 1 rfl (.inr (.inl rfl)))))))
    rSkip) rSkip)
    (rSeq (rIte (tVal (eIsi "int" (eName 1 rfl (.inr (.inl rfl))) m_isinstance rfl m_int rfl (by decide +kernel) (by decide) (by decide)) (by intro _; rfl))
    (rSeq (rRet (rAndV (eIsi "int" (eName 0 rfl (.inr (.inl rfl))) m_isinstance rfl m_int rfl (by decide +kernel) (by decide) (by decide)) (rAndV (rNotV (eIsi "bool" (eName 0 rfl (.inr (.inl rfl))) m_isinstance rfl m_bool rfl (by decide +kernel) (by decide) (by decide))) (pe_one (eEq Ft (eName 0 rfl (.inr (.inl rfl))) (eName 1 rfl (.inr (.inl rfl))))))))
    rSkip) rSkip)
    (rSeq (rRet (rAndV (eIsi "str" (eName 0 rfl (.inr (.inl rfl))) m_isinstance rfl m_str rfl (by decide +kernel) (by decide) (by decide)) (pe_one (eEq Ft (eName 0 rfl (.inr (.inl rfl))) (eName 1 rfl (.inr (.inl rfl)))))))
    rSkip)))))
abbrev s_law : Stmt := topS 45
theorem sc_law : FnScope ["script", "bag", "tables", "dues", "turn", "spot", "table"] ["script"] (defScope s_law) := ⟨rfl, rfl, rfl, by decide +kernel, rfl, by decide +kernel, by decide +kernel⟩
def d_law : DS :=
    (dSeq (dAsg (dCallF 1 (dCons (dVar 0) dNil) fn_lawbag) (dgName 1))
    (dSeq (dAsg (dLc false [4] (dRng1 (dCons (dCon (.int 3)) dNil)) (dgName 4) dYes (dCallF 2 (dCons (dVar 1) (dCons (dBin (opAdd false) (dCon (.int 2)) (dCallF 2 (dCons (dVar 1) (dCons (dCon (.int 5)) dNil)) fn_lawdraw)) dNil)) fn_lawplain)) (dgName 2))
    (dSeq (dAsg (dLc false [6] (dSeqI (dVar 2)) (dgName 6) dYes (dCallF 1 (dCons (dVar 6) dNil) fn_lawhurdle)) (dgName 3))
    (dSeq (dFor (dRng1 (dCons (dCon (.int 6)) dNil)) (dgName 4)
    (dSeq (dAsg (dBin opMod (dCall opInt (dCons (dVar 4) dNil)) (dCon (.int 3))) (dgName 5))
    (dSeq (dIte (dNot (dTst (dCallF 2 (dCons (dCallF 1 (dCons (dBin opIx (dVar 2) (dVar 5)) dNil) fn_hurdle) (dCons (dBin opIx (dVar 3) (dVar 5)) dNil)) fn_lawlike)))
    (dSeq (dRet (dCon (.bl false)))
    dSkip) dSkip)
    dSkip)))
    (dSeq (dRet (dCon (.bl true)))
    dSkip)))))
def fn_law : DF := dDef 7 d_law
theorem ok_law {P : Program} {w : World} {K : PySem.W.Frag} {mg : Str → Option Value} {base : Heap} {T : List Addr} (m_int : mg "int" = none) (m_range : mg "range" = none) (C_lawlike : Cal P w K mg base T 9 "_law_like" s_lawlike ["value", "due"] fn_lawlike) (C_hurdle : Cal P w K mg base T 13 "hurdle" s_hurdle ["table"] fn_hurdle) (C_lawhurdle : Cal P w K mg base T 2 "_law_hurdle" s_lawhurdle ["table"] fn_lawhurdle) (C_lawplain : Cal P w K mg base T 4 "_law_plain" s_lawplain ["bag", "hands"] fn_lawplain) (C_lawdraw : Cal P w K mg base T 1 "_law_draw" s_lawdraw ["bag", "many"] fn_lawdraw) (C_lawbag : Cal P w K mg base T 1 "_law_bag" s_lawbag ["script"] fn_lawbag) {f : Addr} (cdv : Value) (A : Around) (outer : List Env) (s : Shared) (H : Hp) (E : XK) (hA : Clr A) (hR : Room 13 (A.deeper (envOfC "law" (defScope s_law) s.heap.objs.size f cdv))) :
    PSs (cxOf (L2.CX P w) P w K mg base ["script", "bag", "tables", "dues", "turn", "spot", "table"] "law" (defScope s_law) f cdv A outer s H E) (defBody s_law) (sD K T d_law) := by
  have Ft : Fit (cxOf (L2.CX P w) P w K mg base ["script", "bag", "tables", "dues", "turn", "spot", "table"] "law" (defScope s_law) f cdv A outer s H E) 13 := fit_cx sc_law hA hR
  exact (rSeq (sSet 1 Ft.nd rfl (.inr rfl) (eCal C_lawbag Ft (by decide) rfl (rCons (eName 0 rfl (.inl rfl)) rNil rfl)) rfl (.inl rfl))
    (rSeq (rSetLc (i := 2) (c := false) Ft.calm Ft.nd rfl rfl rfl (iRng1' m_range rfl (rCons eInt rNil rfl) rfl) (own := [("turn", 4)]) (blk_by (by exact rfl)) (fun _ _ _ _ _ => (gName' 4 (by decide) (fit_blk Ft _ _ _ _ _).nd rfl (.inl rfl) (.inr rfl))) (fun _ _ _ _ _ => rtNil) (fun _ _ _ _ _ => (eCal C_lawplain (fit_blk Ft _ _ _ _ _) (by decide) rfl (rCons (eName 1 rfl (.inr (.inl rfl))) (rCons (eAdd false eInt (eCal C_lawdraw (fit_blk Ft _ _ _ _ _) (by decide) rfl (rCons (eName 1 rfl (.inr (.inl rfl))) (rCons eInt rNil rfl) rfl))) rNil rfl) rfl))))
    (rSeq (rSetLc (i := 3) (c := false) Ft.calm Ft.nd rfl rfl rfl (iSeq (eName 2 rfl (.inl rfl))) (own := [("table", 6)]) (blk_by (by exact rfl)) (fun _ _ _ _ _ => (gName' 6 (by decide) (fit_blk Ft _ _ _ _ _).nd rfl (.inl rfl) (.inr rfl))) (fun _ _ _ _ _ => rtNil) (fun _ _ _ _ _ => (eCal C_lawhurdle (fit_blk Ft _ _ _ _ _) (by decide) rfl (rCons (eName 6 rfl (.inl rfl)) rNil rfl))))
    (rSeq (sFor (I := [4]) (passes_of rfl) rfl (iRng1' m_range rfl (rCons eInt rNil rfl) rfl) (gName' 4 (by decide) Ft.nd rfl (.inl rfl) (.inr rfl))
    (rSeq (sSet 5 Ft.nd rfl (.inl rfl) (eMod (eIntOf m_int rfl (rCons (eName 4 rfl (.inl rfl)) rNil rfl)) eInt) rfl (.inl rfl))
    (rSeq (rIte (rNot (tVal (eCal C_lawlike Ft (by decide) rfl (rCons (eCal C_hurdle Ft (by decide) rfl (rCons (eIx Ft (eName 2 rfl (.inl rfl)) (eName 5 rfl (.inl rfl)) (fun _ _ => rfl)) rNil rfl)) (rCons (eIx Ft (eName 3 rfl (.inl rfl)) (eName 5 rfl (.inl rfl)) (fun _ _ => rfl)) rNil rfl) rfl)) (by intro _; rfl)))
    (rSeq (rRet eBl)
    rSkip) rSkip)
    rSkip)) (fun _ => rfl))
    (rSeq (rRet eBl)
    rSkip)))))
end
end Vk
set_option maxRecDepth 100000
set_option maxHeartbeats 4000000
namespace Vw
open PySem PySem.Spec PyProof.Rows L2
end Vw
set_option maxRecDepth 100000
set_option maxHeartbeats 4000000
namespace Vw
open PySem PySem.Spec L2
theorem filter_yes {α : Type} (l : List α) : l.filter (fun _ => true) = l := List.filter_eq_self.mpr fun _ _ => rfl
section
variable {α : Type} {g : DG} {S S0 : Sto}
theorem lc_loop {src : Src} {t : DT} {f : DE} {G : Gam} {l : List α} {e : α → D} (hsrc : ∀ i, src i S = some (l.map e)[i]?) (p : α → Bool) (h : α → D)
    (step : ∀ x ∈ l, ∃ G1, g (e x) G S = some (G1, S) ∧ t G1 S = some (p x, S) ∧ (p x = true → f G1 S = some (h x, S))) :
    dLcLoop src g t f G (l.length + 1) 0 S [] = some ((l.filter p).map h, S) := by
  obtain ⟨out, S', e1, rfl, rfl⟩ := lc_inv (src := src) (g := g) (t := t) (f := f) (G := G) (ds := l.map e) (fun i S' acc => S' = S ∧ acc = ((l.take i).filter p).map h) (fun i S' acc hI => by rw [hI.1]; exact hsrc i)
    (fun i S' acc d hd hI => by
      obtain ⟨rfl, rfl⟩ := hI
      rw [List.getElem?_map] at hd
      obtain ⟨x, hx, rfl⟩ := Option.map_eq_some_iff.mp hd
      obtain ⟨G1, s1, s2, s3⟩ := step x (List.mem_of_getElem? hx)
      have ht : l.take (i + 1) = l.take i ++ [x] := by rw [List.take_add_one, hx]; rfl
      refine ⟨G1, S', p x, S', s1, s2, fun hp => ⟨h x, S', s3 hp, rfl, ?_⟩, fun hp => ⟨rfl, ?_⟩⟩
      · rw [ht, List.filter_append, List.map_append]; simp [hp]
      · rw [ht, List.filter_append, List.map_append]; simp [hp]) l.length 0 S [] (by rw [List.length_map]; omega) ⟨rfl, by simp⟩
  rw [List.length_map, List.take_length] at e1
  exact e1
theorem lc_pure {c : Bool} {own : List Nat} {w : DI} {src : Src} {n : Nat} {t : DT} {f : DE} {G : Gam} {l : List α} {e : α → D} (hw : w G S0 = some (src, n, S)) (hn : n = l.length + 1) (hsrc : ∀ i, src i S = some (l.map e)[i]?) (p : α → Bool) (h : α → D)
    (step : ∀ x ∈ l, ∃ G1, g (e x) (wipeG G own) S = some (G1, S) ∧ t G1 S = some (p x, S) ∧ (p x = true → f G1 S = some (h x, S))) :
    dLc c own w g t f G S0 = okLst c ((l.filter p).map h) S := by
  subst hn
  exact dLc_of hw (lc_loop hsrc p h step)
/-- no test -/
theorem lc_pureY {c : Bool} {own : List Nat} {w : DI} {src : Src} {n : Nat} {f : DE} {G : Gam} {l : List α} {e : α → D} (hw : w G S0 = some (src, n, S)) (hn : n = l.length + 1) (hsrc : ∀ i, src i S = some (l.map e)[i]?) (h : α → D)
    (step : ∀ x ∈ l, ∃ G1, g (e x) (wipeG G own) S = some (G1, S) ∧ f G1 S = some (h x, S)) :
    dLc c own w g dYes f G S0 = okLst c (l.map h) S := by
  have := lc_pure (c := c) (own := own) (t := dYes) hw hn hsrc (fun _ => true) h fun x hx => by
    obtain ⟨G1, a, b⟩ := step x hx
    exact ⟨G1, a, rfl, fun _ => b⟩
  rwa [filter_yes] at this
theorem gl_pure {src : Src} {t : DT} {em : DEm} {l : List α} {e : α → D} {m : Nat} (hsrc : ∀ i, src i S = some (l.map e)[i]?) (R : Gam → Prop) (p : α → Bool) (h : α → List D)
    (step : ∀ x ∈ l, ∀ G acc, R G → acc.length + m ≤ 1000000 → ∃ G1, g (e x) G S = some (G1, S) ∧ t G1 S = some (p x, S) ∧ (p x = false → R G1) ∧ (p x = true → ∃ G2, em G1 S acc = some (G2, S, acc ++ h x) ∧ R G2))
    (hm : ∀ x ∈ l, (h x).length ≤ m) (G : Gam) (acc : List D) (hR : R G) (hl : acc.length + (l.length + 1) * m ≤ 1000000) :
    ∃ G', dGLoop src g t em (l.length + 1) 0 G S acc = some (G', S, acc ++ (l.filter p).flatMap h) ∧ R G' := by
  obtain ⟨G', S', out, e1, rfl, hR', rfl, _⟩ := g_inv (src := src) (g := g) (t := t) (em := em) (ds := l.map e) (fun i G' S' a => S' = S ∧ R G' ∧ a = acc ++ ((l.take i).filter p).flatMap h ∧ a.length ≤ acc.length + i * m) (fun i G' S' a hI => by rw [hI.1]; exact hsrc i)
    (fun i G' S' a d hd hI => by
      obtain ⟨rfl, hR', rfl, hal⟩ := hI
      rw [List.getElem?_map] at hd
      obtain ⟨x, hx, rfl⟩ := Option.map_eq_some_iff.mp hd
      have hi : i < l.length := (List.getElem?_eq_some_iff.mp hx).1
      have hmm : (i + 1) * m ≤ l.length * m := Nat.mul_le_mul_right _ hi
      rw [Nat.succ_mul] at hmm hl
      obtain ⟨G1, s1, s2, s4, s3⟩ := step x (List.mem_of_getElem? hx) G' (acc ++ ((l.take i).filter p).flatMap h) hR' (by omega)
      have ht : l.take (i + 1) = l.take i ++ [x] := by rw [List.take_add_one, hx]; rfl
      have hxm := hm x (List.mem_of_getElem? hx)
      refine ⟨G1, S', p x, S', s1, s2, fun hp => ?_, fun hp => ⟨rfl, s4 hp, ?_, ?_⟩⟩
      · obtain ⟨G2, s5, s6⟩ := s3 hp
        refine ⟨G2, S', _, s5, rfl, s6, ?_, ?_⟩
        · rw [ht, List.filter_append, List.flatMap_append, List.append_assoc]; simp [hp]
        · rw [List.length_append, Nat.succ_mul]; omega
      · rw [ht, List.filter_append, List.flatMap_append]; simp [hp]
      · rw [Nat.succ_mul]; omega) l.length 0 G S acc (by rw [List.length_map]; omega) ⟨rfl, hR, by simp, by omega⟩
  rw [List.length_map, List.take_length] at e1
  exact ⟨G', e1, hR'⟩
theorem emElt_of {f : DE} {G : Gam} {acc : List D} {d : D} (hl : acc.length + 1 ≤ 1000000) (h : f G S = some (d, S)) : emElt f G S acc = some (G, S, acc ++ [d]) := by
  unfold emElt
  rw [if_pos (show acc.length < lim from hl), h]; rfl
theorem dGen_of {js : List (Option Nat)} {w : DI} {t : DT} {em : DEm} {src : Src} {n : Nat} {G G' : Gam} {out : List D} (hw : w G S0 = some (src, n, S)) (h : dGLoop src g t em n 0 (subO js G) S [] = some (G', S, out)) (hl : out.length ≤ 1000000) : dGen js w g t em G S0 = some (.tup out, S) := by
  unfold dGen
  rw [hw]
  show ((dGLoop src g t em n 0 (subO js G) S []).bind fun r => okTup r.2.2 r.2.1) = _
  rw [h]
  exact okt hl
/-- a loop that may return -/
theorem for_find {src : Src} {b : DS} {l : List α} {e : α → D} (hsrc : ∀ i, src i S = some (l.map e)[i]?) (R : Gam → Prop) (P : α → Option D)
    (step : ∀ x ∈ l, ∀ G, R G → ∃ G1 G2, g (e x) G S = some (G1, S) ∧ b G1 S = some ((match P x with | none => Fl.nx | some r => Fl.rt r), G2, S) ∧ R G2) :
    ∀ (k i : Nat) (G : Gam), i + k = l.length → R G → ∃ G', dLoop src g b (k + 1) i G S = some ((match (l.drop i).findSome? P with | none => Fl.nx | some r => Fl.rt r), G', S) ∧ R G' := by
  intro k
  induction k with
  | zero =>
    intro i G hi hR
    refine ⟨G, ?_, hR⟩
    have e1 : (l.map e)[i]? = none := List.getElem?_eq_none (by rw [List.length_map]; omega)
    have e2 : l.drop i = [] := List.drop_eq_nil_of_le (by omega)
    unfold dLoop
    rw [hsrc i, e1, e2]; rfl
  | succ k ih =>
    intro i G hi hR
    have hlt : i < l.length := by omega
    have e1 : (l.map e)[i]? = some (e l[i]) := by rw [List.getElem?_map, List.getElem?_eq_getElem hlt]; rfl
    obtain ⟨G1, G2, s1, s2, s3⟩ := step l[i] (List.getElem_mem hlt) G hR
    have e2 : l.drop i = l[i] :: l.drop (i + 1) := List.drop_eq_getElem_cons hlt
    rw [e2, List.findSome?_cons]
    cases hP : P l[i] with
    | none =>
      rw [hP] at s2
      obtain ⟨G', e3, e4⟩ := ih (i + 1) G2 (by omega) s3
      refine ⟨G', ?_, e4⟩
      unfold dLoop
      rw [hsrc i, e1]
      simp only [Option.bind_some, s1, s2]
      exact e3
    | some r =>
      rw [hP] at s2
      refine ⟨G2, ?_, s3⟩
      unfold dLoop
      rw [hsrc i, e1]
      simp only [Option.bind_some, s1, s2]
end
theorem fix_src {S : Sto} {ds : List D} : ∀ i, fixS ds i S = some ds[i]? := fun _ => rfl
theorem cel_src {S : Sto} {n : Nat} {ds : List D} (h : S[n]? = some (Cell.lst ds)) : ∀ i, celS n i S = some ds[i]? := fun _ => cel_at h
theorem rng_map {k : Nat} : rngD 0 (k : Int) = (List.range k).map fun i => D.int (i : Nat) := by
  unfold rngD
  simp
theorem rng_map2 {a k : Nat} : rngD (a : Int) (k : Int) = (List.range (k - a)).map fun t => D.int ((a + t : Nat) : Int) := by
  unfold rngD
  have : ((k : Int) - (a : Int)).toNat = k - a := by omega
  rw [this]
  apply List.map_congr_left
  intro t _
  rw [Int.natCast_add]
theorem dSeqI_l {f : DE} {G : Gam} {S S1 : Sto} {ds : List D} (h : f G S = some (.lst ds, S1)) : dSeqI f G S = some (fixS ds, ds.length + 1, S1) := by
  unfold dSeqI
  simp only [h, Option.bind_some]; rfl
theorem dSeqI_c {f : DE} {G : Gam} {S S1 : Sto} {n : Nat} {ds : List D} (h : f G S = some (.loc n, S1)) (hc : S1[n]? = some (Cell.lst ds)) : dSeqI f G S = some (celS n, ds.length + 1, S1) := by
  unfold dSeqI
  simp only [h, Option.bind_some]
  show (match S1[n]? with | some (Cell.lst ds) => some (celS n, ds.length + 1) | _ => none).map _ = _
  rw [hc]; rfl
theorem dMeth_of {t : String} {op : OpM} {fo : DE} {fa : DA} {G : Gam} {S S1 S2 : Sto} {x : D} {ds : List D} {r : Option (D × Sto)} (h1 : fo G S = some (x, S1)) (ht : tyD t S1 x = true) (h2 : fa G S1 = some (ds, S2)) (h3 : op x ds S2 = r) : dMeth t op fo fa G S = r := by
  unfold dMeth
  simp only [h1, Option.bind_some, ht, if_true, h2, h3]
theorem dIf_t {t : DT} {f g : DE} {G : Gam} {S S1 : Sto} (h : t G S = some (true, S1)) : dIf t f g G S = f G S1 := by
  unfold dIf
  simp only [h, Option.bind_some, if_true]
theorem dIf_f {t : DT} {f g : DE} {G : Gam} {S S1 : Sto} (h : t G S = some (false, S1)) : dIf t f g G S = g G S1 := by
  unfold dIf
  simp only [h, Option.bind_some, Bool.false_eq_true, if_false]
theorem dAnd_of {a b : DT} {G : Gam} {S : Sto} {x y : Bool} (h1 : a G S = some (x, S)) (h2 : b G S = some (y, S)) : dAnd a b G S = some (x && y, S) := by
  unfold dAnd
  simp only [h1, Option.bind_some]
  cases x
  · rfl
  · exact h2
theorem dOr_of {a b : DT} {G : Gam} {S : Sto} {x y : Bool} (h1 : a G S = some (x, S)) (h2 : b G S = some (y, S)) : dOr a b G S = some (x || y, S) := by
  unfold dOr
  simp only [h1, Option.bind_some]
  cases x
  · exact h2
  · rfl
theorem in_strs {neg : Bool} {w : Str} {l : List Str} {S : Sto} : opIn neg (.str w) (.tup (l.map D.str)) S = some (.bl (if neg then !(decide (w ∈ l)) else decide (w ∈ l)), S) := by
  have h1 : ∀ e : List Str, (e.map D.str).all flatD = true := fun e => by
    induction e with
    | nil => rfl
    | cons a e ih => exact ih
  have h2 : ∀ e : List Str, ((e.map D.str).any (eqF · (.str w))) = decide (w ∈ e) := fun e => by
    induction e with
    | nil => rfl
    | cons a e ih =>
      show ((a == w) || (e.map D.str).any (eqF · (.str w))) = _
      rw [ih]
      by_cases h : a = w
      · subst h; simp
      · have h' : ¬ w = a := fun x => h x.symm
        simp [h, h']
  unfold opIn inD
  show (((if flatD (.str w) && (l.map D.str).all flatD then some ((l.map D.str).any (eqF · (.str w))) else inP S (.str w) (.tup (l.map D.str)))).map _) = _
  rw [h1, h2]; rfl
theorem dFn_rt {n : Nat} {b : DS} {ds : List D} {S S' : Sto} {G' : Gam} {d : D} (h : b (ds.map some ++ List.replicate (n - ds.length) none) S = some (.rt d, G', S')) : dDef n b ds S = some (d, S') := by
  unfold dDef
  rw [h]; rfl
theorem dSeq_ite_f {t : DT} {f g h : DS} {G : Gam} {S S1 : Sto} (e : t G S = some (false, S1)) (hg : g = dSkip) : dSeq (dIte t f g) h G S = h G S1 := by
  subst hg
  exact dSeq_nx ((dIte_f e).trans rfl)
end Vw
set_option maxRecDepth 100000
set_option maxHeartbeats 4000000
namespace Vw
open PySem PySem.Spec L2
structure Sm (B : Nat) (p : PyData) : Prop where
  sh : p.showable = true
  nd : p.hasDict = false
  dp : p.depth ≤ 10
  ln : p.shown.length ≤ B
structure SmA (B : Nat) (ps : List PyData) : Prop where
  sh : PyData.showableAll ps = true
  nd : PyData.hasDictAll ps = false
  dp : PyData.depthAll ps ≤ 9
  ln : ∀ t ∈ PyData.shownAll ps, t.length ≤ B
  ct : (PyData.shownAll ps).length = ps.length
theorem smA_nil {B : Nat} : SmA B [] := ⟨rfl, rfl, by decide, (fun t h => by cases h), rfl⟩
theorem smA_cons {B : Nat} {p : PyData} {ps : List PyData} (h : Sm B p) (hd : p.depth ≤ 9) (t : SmA B ps) : SmA B (p :: ps) := by
  refine ⟨?_, ?_, ?_, fun z hz => ?_, ?_⟩
  · show (p.showable && PyData.showableAll ps) = true
    rw [h.sh, t.sh]; rfl
  · show (p.hasDict || PyData.hasDictAll ps) = false
    rw [h.nd, t.nd]; rfl
  · show max p.depth (PyData.depthAll ps) ≤ 9
    have := t.dp; omega
  · have hz : z ∈ p.shown :: PyData.shownAll ps := hz
    rcases List.mem_cons.mp hz with rfl | hz
    · exact h.ln
    · exact t.ln z hz
  · show (PyData.shownAll ps).length + 1 = _
    rw [t.ct]; rfl
theorem str_app_len (a b : Str) : (a ++ b).length = a.length + b.length := by
  show (a.cps ++ b.cps).size = _
  rw [Array.size_append]; rfl
theorem piled_le {B : Nat} : ∀ {ts : List Str}, (∀ t ∈ ts, t.length ≤ B) → piled ts ≤ ts.length * (B + 2)
  | [], _ => by simp [piled]
  | t :: ts, h => by
    have h1 := h t List.mem_cons_self
    have h2 := piled_le (ts := ts) fun x hx => h x (List.mem_cons_of_mem _ hx)
    have e : piled (t :: ts) = t.length + 2 + piled ts := piled_cons t ts
    rw [e, List.length_cons, Nat.succ_mul]
    omega
theorem tupleText_le {B : Nat} {ts : List Str} (h : ∀ t ∈ ts, t.length ≤ B) : (tupleText ts).length ≤ ts.length * (B + 2) + 3 := by
  have hp := piled_le h
  unfold tupleText
  rw [str_app_len, str_app_len]
  have h1 : (("(" : Str)).length = 1 := rfl
  have h3 : ((if ts.length == 1 then ",)" else ")" : String) : Str).length ≤ 2 := by split <;> decide
  have h2 : (Str.join ", " ts).length ≤ piled ts := by
    by_cases e : ts = []
    · subst e; decide
    · have := join_length_add ts e; omega
  omega
theorem sm_tuple {B n C : Nat} {ps : List PyData} (h : SmA B ps) (hn : ps.length ≤ n) (hC : n * (B + 2) + 3 ≤ C) (hd : PyData.depthAll ps ≤ 8) : Sm C (.tuple ps) ∧ (PyData.tuple ps).depth = PyData.depthAll ps + 1 := by
  refine ⟨⟨h.sh, h.nd, ?_, ?_⟩, rfl⟩
  · show PyData.depthAll ps + 1 ≤ 10
    omega
  · show (tupleText (PyData.shownAll ps)).length ≤ C
    have h1 := tupleText_le h.ln
    rw [h.ct] at h1
    have h2 : ps.length * (B + 2) ≤ n * (B + 2) := Nat.mul_le_mul_right _ hn
    omega
def six : List Str := ["-", "even", "stand", "bow", "pass", "slip"]
theorem Sm.mono {B C : Nat} {p : PyData} (h : Sm B p) (hb : B ≤ C) : Sm C p := ⟨h.sh, h.nd, h.dp, Nat.le_trans h.ln hb⟩
def SymE (k : Nat) (M : Nat → Nat → Str) : Prop := ∀ a b, a < k → b < k → M a b = wEven → M b a = wEven
structure Lk (k : Nat) (M : Nat → Nat → Str) (ws : List (List Int)) (es : List Int) : Prop where
  k10 : k ≤ 10
  ways : Ways k ws
  sym : SymE k M
  six : ∀ a b, a < k → b < k → M a b ∈ six
  esb : ∀ e ∈ es, 0 ≤ e ∧ e < 10
  esl : es.length ≤ 10
theorem others_mem {k i : Nat} {z : Int} (h : z ∈ others k i) : ∃ j : Nat, z = (j : Int) ∧ j < k ∧ j ≠ i := by
  unfold others at h
  obtain ⟨j, hj, rfl⟩ := List.mem_map.mp h
  obtain ⟨h1, h2⟩ := List.mem_filter.mp hj
  exact ⟨j, rfl, List.mem_range.mp h1, of_decide_eq_true h2⟩
theorem mem_others {k i j : Nat} (h : j < k) (hi : j ≠ i) : (j : Int) ∈ others k i :=
  List.mem_map.mpr ⟨j, List.mem_filter.mpr ⟨List.mem_range.mpr h, decide_eq_true hi⟩, rfl⟩
theorem ix_seq' {S : Sto} {x : D} {ds : List D} {r : Nat} {d : D} (h : seqD S x = some ds) (e : ds[r]? = some d) : opIx x (.int r) S = some (d, S) := by
  have hr := (List.getElem?_eq_some_iff.mp e)
  obtain ⟨hr, e⟩ := hr
  unfold opIx
  rw [h]
  show (atI ds (r : Int)).map _ = _
  rw [atI_nn hr, e]; rfl
section
variable {k : Nat} {M : Nat → Nat → Str} {ws : List (List Int)} {es : List Int} {S : Sto}
theorem ix_grid {i : Nat} (hi : i < k) : opIx (gridD k M) (.int i) S = some (.tup (rowD k (M i)), S) := ix_seq' rfl (by rw [List.getElem?_map, List.getElem?_range hi]; rfl)
theorem ix_row {i j : Nat} (hj : j < k) : opIx (.tup (rowD k (M i))) (.int j) S = some (.str (M i j), S) := ix_seq' rfl (rowD_get hj)
theorem ix_ways {i : Nat} {w : List Int} (h : ws[i]? = some w) : opIx (waysD ws) (.int i) S = some (.tup (intL w), S) := ix_seq' rfl (by rw [List.getElem?_map, h]; rfl)
theorem ix_lock0 : opIx (lockD k M ws es) (.int 0) S = some (gridD k M, S) := rfl
theorem eq_str {a b : Str} : opEq false (.str a) (.str b) S = some (.bl (decide (a = b)), S) := rfl
end
def evL (M : Nat → Nat → Str) (w : List Int) (i : Nat) : List Int := w.filter fun j => decide (M i j.toNat = wEven)
theorem take_snoc {α : Type} {l : List α} {t : Nat} {x : α} (h : l[t]? = some x) : l.take (t + 1) = l.take t ++ [x] := by
  rw [List.take_add_one, h]; rfl
abbrev pairD (p : Nat × Nat) : D := .tup [.int p.1, .int p.2]
theorem ext_loc {S : Sto} {n : Nat} {ds es : List D} (h : S[n]? = some (Cell.lst ds)) (hb : ds.length + es.length ≤ 1000000) : opExtend (.loc n) [.lst es] S = some (.non, S.set n (Cell.lst (ds ++ es))) := by
  show (match S[n]?, some es with | some (Cell.lst ds), some es => (if ds.length + es.length ≤ lim then some (D.non, S.set n (Cell.lst (ds ++ es))) else none) | _, _ => none) = _
  rw [h]
  exact if_pos hb
theorem toPs_map {α : Type} {fl : Nat → Option PyData} {f : α → D} {g : α → PyData} : ∀ {l : List α}, (∀ x ∈ l, toP fl (f x) = some (g x)) → toPs fl (l.map f) = some (l.map g)
  | [], _ => rfl
  | x :: l, h => by
    show (toP fl (f x)).bind _ = _
    rw [h x List.mem_cons_self]
    show (toPs fl (l.map f)).map _ = _
    rw [toPs_map fun y hy => h y (List.mem_cons_of_mem _ hy)]; rfl
abbrev intsP (xs : List Int) : PyData := .tuple (xs.map PyData.int)
theorem intsP_of {fl : Nat → Option PyData} {xs : List Int} : toP fl (.tup (intL xs)) = some (intsP xs) := by
  show (toPs fl (xs.map D.int)).map _ = _
  rw [pys_ints]; rfl
section
variable {k : Nat} {M : Nat → Nat → Str} {ws : List (List Int)} {es : List Int}
theorem Lk.way (L : Lk k M ws es) {i : Nat} (hi : i < k) : ∃ w, ws[i]? = some w := ⟨ws[i]'(by rw [L.ways.1]; exact hi), List.getElem?_eq_getElem _⟩
theorem Lk.ev_mem (L : Lk k M ws es) {i : Nat} {w : List Int} (hw : ws[i]? = some w) {z : Int} (h : z ∈ evL M w i) : ∃ j : Nat, z = (j : Int) ∧ j < k ∧ j ≠ i ∧ M i j = wEven := by
  obtain ⟨h1, h2⟩ := List.mem_filter.mp h
  obtain ⟨j, rfl, hj, hne⟩ := others_mem ((L.ways.2 i w hw).mem_iff.mp h1)
  exact ⟨j, rfl, hj, hne, of_decide_eq_true h2⟩
theorem Lk.ev_len (L : Lk k M ws es) {i : Nat} {w : List Int} (hw : ws[i]? = some w) : (evL M w i).length ≤ 10 := by
  have h1 : (evL M w i).length ≤ w.length := List.length_filter_le _ _
  have := (L.ways.2 i w hw).length_eq
  have := others_len k i
  have := L.k10
  omega
end
theorem eq_self {a : Str} {S : Sto} : opEq false (.str a) (.str a) S = some (.bl true, S) := by
  rw [eq_str, decide_eq_true rfl]
end Vw
set_option maxRecDepth 100000
set_option maxHeartbeats 4000000
namespace Vw
open PySem PySem.Spec L2
def d_evenpairs : DS :=
    (dSeq (dAsg (dBin opIx (dVar 0) (dCon (.int 0))) (dgName 1))
    (dSeq (dAsg (dCall opLen (dCons (dVar 1) dNil)) (dgName 2))
    (dSeq (dRet (dGen [none, none, some 2, some 1] (dRng1 (dCons (dVar 2) dNil)) (dgName 0) dYes (emCl (dRng2 (dCons (dBin (opAdd false) (dVar 0) (dCon (.int 1))) (dCons (dVar 2) dNil))) (dgName 1) (dCmpT (opEq false) (dBin opIx (dBin opIx (dVar 3) (dVar 0)) (dVar 1)) (dCon (.str ("even" : Str)))) (emElt (dTup (dCons (dVar 0) (dCons (dVar 1) dNil)))))))
    dSkip)))
def fn_evenpairs : DF := dDef 3 d_evenpairs
theorem flatMap_le {α β : Type} {f : α → List β} {m : Nat} : ∀ {l : List α}, (∀ x ∈ l, (f x).length ≤ m) → (l.flatMap f).length ≤ l.length * m
  | [], _ => by simp
  | x :: l, h => by
    have h1 := h x List.mem_cons_self
    have h2 := flatMap_le (l := l) fun y hy => h y (List.mem_cons_of_mem _ hy)
    rw [List.flatMap_cons, List.length_append, List.length_cons, Nat.succ_mul]
    omega
def evRow (k : Nat) (M : Nat → Nat → Str) (i : Nat) : List (Nat × Nat) := ((List.range (k - (i + 1))).filter fun t => decide (M i (i + 1 + t) = wEven)).map fun t => (i, i + 1 + t)
def evUp (k : Nat) (M : Nat → Nat → Str) : List (Nat × Nat) := (List.range k).flatMap (evRow k M)
theorem evRow_len {k i : Nat} {M : Nat → Nat → Str} : (evRow k M i).length ≤ k := by
  unfold evRow
  rw [List.length_map]
  have := List.length_filter_le (fun t => decide (M i (i + 1 + t) = wEven)) (List.range (k - (i + 1)))
  rw [List.length_range] at this
  omega
theorem evUp_len {k : Nat} {M : Nat → Nat → Str} (hk : k ≤ 10) : (evUp k M).length ≤ 100 := by
  have := flatMap_le (f := evRow k M) (m := 10) (l := List.range k) fun i _ => Nat.le_trans evRow_len hk
  rw [List.length_range] at this
  show ((List.range k).flatMap (evRow k M)).length ≤ 100
  omega
theorem evUp_mem {k : Nat} {M : Nat → Nat → Str} {p : Nat × Nat} : p ∈ evUp k M ↔ p.1 < p.2 ∧ p.2 < k ∧ M p.1 p.2 = wEven := by
  unfold evUp
  rw [List.mem_flatMap]
  constructor
  · rintro ⟨i, hi, hp⟩
    obtain ⟨t, ht, rfl⟩ := List.mem_map.mp hp
    obtain ⟨h1, h2⟩ := List.mem_filter.mp ht
    have h1 := List.mem_range.mp h1
    have hi := List.mem_range.mp hi
    refine ⟨by show i < i + 1 + t; omega, by show i + 1 + t < k; omega, of_decide_eq_true h2⟩
  · rintro ⟨h1, h2, h3⟩
    obtain ⟨a, b⟩ := p
    have h1 : a < b := h1
    have h2 : b < k := h2
    have e : a + 1 + (b - (a + 1)) = b := by omega
    refine ⟨a, List.mem_range.mpr (by omega), List.mem_map.mpr ⟨b - (a + 1), List.mem_filter.mpr ⟨List.mem_range.mpr (by omega), ?_⟩, ?_⟩⟩
    · rw [e]; exact decide_eq_true h3
    · show (a, a + 1 + (b - (a + 1))) = (a, b)
      rw [e]
theorem len_grid {k : Nat} {M : Nat → Nat → Str} {S : Sto} : opLen [gridD k M] S = some (.int k, S) := by
  have hl := len_seq (S := S) (x := gridD k M) rfl
  rw [List.length_map, List.length_range] at hl
  exact hl
section
variable {k : Nat} {M : Nat → Nat → Str} {ws : List (List Int)} {es : List Int} {S : Sto}
theorem evenpairs_ok (hk : k ≤ 10) : fn_evenpairs [lockD k M ws es] S = some (.tup ((evUp k M).map pairD), S) := by
  refine dFn_rt (G' := [some (lockD k M ws es), some (gridD k M), some (.int k)]) ?_
  refine (dSeq_nx (dAsg_of (d := gridD k M) (S1 := S) rfl)).trans ?_
  refine (dSeq_nx (dAsg_of (dCall_of (dOne_of (d := gridD k M) (S1 := S) rfl) len_grid))).trans ?_
  refine dSeq_rt (dRet_of ?_)
  have hw := rng1_ok (fs := dCons (dVar 2) dNil) (k := k) (G := [some (lockD k M ws es), some (gridD k M), some (.int k)]) (S := S) rfl (by omega)
  rw [rng_map] at hw
  obtain ⟨G', e1, _⟩ := gl_pure (S := S) (g := dgName 0) (t := dYes) (em := emCl (dRng2 (dCons (dBin (opAdd false) (dVar 0) (dCon (.int 1))) (dCons (dVar 2) dNil))) (dgName 1) (dCmpT (opEq false) (dBin opIx (dBin opIx (dVar 3) (dVar 0)) (dVar 1)) (dCon (.str ("even" : Str)))) (emElt (dTup (dCons (dVar 0) (dCons (dVar 1) dNil)))))
    (l := List.range k) (e := fun i => D.int (i : Nat)) (m := 12) fix_src (fun G => ∃ d0 d1, G = [d0, d1, some (.int k), some (gridD k M)]) (fun _ => true) (fun i => (evRow k M i).map pairD)
    (fun i hi G acc hR hacc => by
      obtain ⟨d0, d1, rfl⟩ := hR
      have hi := List.mem_range.mp hi
      refine ⟨[some (.int i), d1, some (.int k), some (gridD k M)], rfl, rfl, (fun h => by cases h), fun _ => ?_⟩
      have h2 := rng2_ok (fs := dCons (dBin (opAdd false) (dVar 0) (dCon (.int 1))) (dCons (dVar 2) dNil)) (a := i + 1) (k := k) (G := [some (.int i), d1, some (.int k), some (gridD k M)]) (S := S) rfl (by omega) (by omega)
      rw [rng_map2] at h2
      obtain ⟨G2, e2, d1', rfl⟩ := gl_pure (S := S) (g := dgName 1) (t := dCmpT (opEq false) (dBin opIx (dBin opIx (dVar 3) (dVar 0)) (dVar 1)) (dCon (.str ("even" : Str)))) (em := emElt (dTup (dCons (dVar 0) (dCons (dVar 1) dNil))))
        (l := List.range (k - (i + 1))) (e := fun t => D.int ((i + 1 + t : Nat) : Int)) (m := 1) fix_src (fun G => ∃ d1, G = [some (.int i), d1, some (.int k), some (gridD k M)]) (fun t => decide (M i (i + 1 + t) = wEven)) (fun t => [pairD (i, i + 1 + t)])
        (fun t ht G acc hR hacc => by
          obtain ⟨d1, rfl⟩ := hR
          have ht := List.mem_range.mp ht
          refine ⟨[some (.int i), some (.int ((i + 1 + t : Nat) : Int)), some (.int k), some (gridD k M)], rfl, ?_, fun _ => ⟨_, rfl⟩, fun _ => ⟨[some (.int i), some (.int ((i + 1 + t : Nat) : Int)), some (.int k), some (gridD k M)], ?_, _, rfl⟩⟩
          · exact dCmpT_of (dBin_of (dBin_of (x := gridD k M) (S1 := S) rfl rfl (ix_grid hi)) rfl (ix_row (by omega))) rfl eq_str
          · exact emElt_of hacc rfl)
        (fun _ _ => Nat.le_refl 1) [some (.int i), d1, some (.int k), some (gridD k M)] acc ⟨d1, rfl⟩ (by rw [List.length_range]; omega)
      refine ⟨_, ?_, some (.int i), d1', rfl⟩
      unfold emCl
      rw [h2]
      simp only [Option.bind_some]
      rw [List.length_map, e2]
      have : ∀ l : List Nat, (l.flatMap fun t => [pairD (i, i + 1 + t)]) = l.map fun t => pairD (i, i + 1 + t) := fun l => by
        induction l with
        | nil => rfl
        | cons a l ih => rw [List.flatMap_cons, ih]; rfl
      rw [this]
      unfold evRow
      rw [List.map_map]; rfl)
    (fun i _ => by rw [List.length_map]; have := evRow_len (k := k) (M := M) (i := i); omega) [none, none, some (.int k), some (gridD k M)] [] ⟨none, none, rfl⟩ (by rw [List.length_range]; simp; omega)
  rw [filter_yes, List.nil_append, ← List.map_flatMap, List.length_range] at e1
  refine dGen_of hw e1 ?_
  have := evUp_len (k := k) (M := M) hk
  show ((evUp k M).map pairD).length ≤ 1000000
  rw [List.length_map]; omega
abbrev wRest : Str := "rest"
abbrev restP : Str × Nat := (wRest, 0)
def kinds8 : List Str := ["rest", "wish", "in", "hand", "look", "yield", "low", "anew"]
structure St (k : Nat) (M : Nat → Nat → Str) (ps : List (Str × Nat)) (tk : List ((Nat × Nat) × Nat)) : Prop where
  len : ps.length = k
  pl : ∀ p ∈ ps, p.1 ∈ kinds8 ∧ p.2 < 10
  prs : tk.map (·.1) = evUp k M
  own : ∀ t ∈ tk, t.2 < 10
def upW : List Str := ["look", "yield", "in"]
def flagS (es : List Int) (w : Str) (i : Nat) : Str := if w ∈ upW then "up" else if w = ("hand" : Str) ∧ ¬ (i : Int) ∈ es then "half" else "down"
section
variable {ps : List (Str × Nat)} {tk : List ((Nat × Nat) × Nat)} {i : Nat} {p : Str × Nat}
def isTok (x y : Nat) (t : (Nat × Nat) × Nat) : Bool := decide (t.1.1 = x ∧ t.1.2 = y)
def hold (tk : List ((Nat × Nat) × Nat)) (x y : Nat) : List Int := (tk.filter (isTok x y)).map fun t => ((t.2 : Nat) : Int)
def headD : List Int → D
  | [] => .non
  | a :: _ => .int a
end
end
end Vw
set_option maxRecDepth 100000
set_option maxHeartbeats 4000000
namespace Vw
open PySem PySem.Spec L2
section
variable {k : Nat} {M : Nat → Nat → Str} {ws : List (List Int)} {es : List Int} {S : Sto}
abbrev pW (w : Str) (t : Nat) : Str × Nat := (w, t)
end
end Vw
set_option maxRecDepth 100000
set_option maxHeartbeats 4000000
namespace Vw
open PySem PySem.Spec L2
theorem dAsgG_of {f : DE} {g : DG} {d : D} {G G1 : Gam} {S S1 S2 : Sto} (h : f G S = some (d, S1)) (hg : g d G S1 = some (G1, S2)) : dAsg f g G S = some (.nx, G1, S2) := by
  unfold dAsg
  simp only [h, Option.bind_some, hg, Option.map_some]
theorem dSeq_yes {t : DT} {f g h : DS} {G G' : Gam} {S S1 S2 : Sto} {b : Bool} {d : D} (e : t G S = some (b, S1)) (hb : b = true) (r : f G S1 = some (.rt d, G', S2)) : dSeq (dIte t f g) h G S = some (.rt d, G', S2) := by
  subst hb
  exact dSeq_rt ((dIte_t e).trans r)
theorem dSeq_no {t : DT} {f h : DS} {G : Gam} {S S1 : Sto} {b : Bool} (e : t G S = some (b, S1)) (hb : b = false) : dSeq (dIte t f dSkip) h G S = h G S1 := by
  subst hb
  exact dSeq_ite_f e rfl
theorem dRetS_of {f : DE} {h : DS} {d : D} {G : Gam} {S S1 : Sto} (e : f G S = some (d, S1)) : dSeq (dRet f) h G S = some (.rt d, G, S1) := dSeq_rt (dRet_of e)
theorem dVar_at {i : Nat} {G : Gam} {S : Sto} {d : D} (h : G[i]? = some (some d)) : dVar i G S = some (d, S) := by
  unfold dVar; rw [h]
section
variable {k : Nat} {M : Nat → Nat → Str} {ws : List (List Int)} {es : List Int} {ps : List (Str × Nat)} {tk : List ((Nat × Nat) × Nat)} {S : Sto} {i : Nat} {w : List Int} {p : Str × Nat}
def headIs (h : List Int) (z : Int) : Bool := match h with
  | [] => false
  | a :: _ => decide (a = z)
def kinds4 : List Str := ["look", "yield", "low", "anew"]
structure PlOk (k : Nat) (M : Nat → Nat → Str) (w : List Int) (i : Nat) (p : Str × Nat) : Prop where
  kind : p.1 ∈ kinds8
  ten : p.2 < 10
  hand : p.1 = ("hand" : Str) → p.2 < (evL M w i).length
  spot : p.1 ∈ kinds4 → p.2 < w.length
structure StP (k : Nat) (M : Nat → Nat → Str) (ws : List (List Int)) (ps : List (Str × Nat)) (tk : List ((Nat × Nat) × Nat)) : Prop where
  st : St k M ps tk
  at_ : ∀ (i : Nat) w p, ws[i]? = some w → ps[i]? = some p → PlOk k M w i p
theorem Lk.wlen (L : Lk k M ws es) (hi : i < k) (hw : ws[i]? = some w) : w.length + 1 = k := by
  have hperm := L.ways.2 i w hw
  have h1 := hperm.length_eq
  have h2 : ∀ n, (others n i).length = if i < n then n - 1 else n := fun n => by
    induction n with
    | zero => rfl
    | succ n ih =>
      rw [others_succ, List.length_append, ih]
      by_cases h : n = i
      · subst h; simp
      · by_cases h2 : i < n
        · rw [if_pos h2, if_neg h, if_pos (by omega)]; simp; omega
        · rw [if_neg h2, if_neg h, if_neg (by omega)]; simp
  have h3 := h2 k
  rw [if_pos hi] at h3
  omega
theorem Lk.spot_j (L : Lk k M ws es) (hi : i < k) (hw : ws[i]? = some w) {t : Nat} (ht : t < w.length) : ∃ j : Nat, w[t]? = some (j : Int) ∧ j < k ∧ j ≠ i := by
  obtain ⟨j, ej, hj, hne⟩ := others_mem ((L.ways.2 i w hw).mem_iff.mp (List.getElem_mem ht))
  exact ⟨j, by rw [List.getElem?_eq_getElem ht, ej], hj, hne⟩
def goesS (M : Nat → Nat → Str) (es : List Int) (ps : List (Str × Nat)) (tk : List ((Nat × Nat) × Nat)) (i j : Nat) (q : Str × Nat) : Bool :=
  decide (M i j = ("pass" : Str)) || (decide (flagS es q.1 j = ("down" : Str)) || (decide (M i j = ("even" : Str)) && (decide (flagS es q.1 j = ("up" : Str)) && headIs (hold tk (min i j) (max i j)) (i : Int))))
def jOf (w : List Int) (t : Nat) : Nat := (w.getD t 0).toNat
def plainS : List (Str × Str) := [("rest", "begin"), ("wish", "raise"), ("hand", "hand"), ("yield", "lower"), ("in", "leave")]
def wLast (k t : Nat) (a b : Str) : Str := if decide (t + 2 = k) = true then a else b
def nextW (k : Nat) (M : Nat → Nat → Str) (es : List Int) (ps : List (Str × Nat)) (tk : List ((Nat × Nat) × Nat)) (i : Nat) (p : Str × Nat) (j : Nat) (q : Str × Nat) : Option Str :=
  if p.1 = ("look" : Str) then (if goesS M es ps tk i j q = true then some (wLast k p.2 "enter" "look") else if decide (M i j ∈ (["bow", "slip"] : List Str)) = true then some "yield" else none)
  else if p.1 = ("low" : Str) then (if decide (flagS es q.1 j = ("down" : Str)) = true then some "see" else none)
  else if p.1 = ("anew" : Str) then some (wLast k p.2 "enter" "raise")
  else (plainS.find? fun z => decide (z.1 = p.1)).map (·.2)
end
end Vw
set_option maxRecDepth 100000
set_option maxHeartbeats 4000000
namespace Vw
open PySem PySem.Spec L2
def KD : List Key := [.inr ("deep" : Str), .inr ("state" : Str)]
/-- the cells below N are the deck's -/
structure Deck (N : Nat) (S : Sto) : Prop where
  ex : ∃ (n : Nat) (far : List Int) (st : Int), S[1]? = some (Cell.dic KD [.loc n, .int st]) ∧ S[n]? = some (Cell.lst (far.map D.int)) ∧ n ≠ 1 ∧ n < N ∧ 1 < N ∧ (∀ x ∈ far, 0 ≤ x) ∧ far.length ≤ 1000 ∧ 0 ≤ st
structure KeepN (N : Nat) (S S' : Sto) : Prop where
  len : S'.length = S.length
  at_ : ∀ b, N ≤ b → S'[b]? = S[b]?
theorem KeepN.refl {N : Nat} {S : Sto} : KeepN N S S := ⟨rfl, fun _ _ => rfl⟩
theorem KeepN.trans {N : Nat} {S S1 S2 : Sto} (h : KeepN N S S1) (h2 : KeepN N S1 S2) : KeepN N S S2 := ⟨h2.len.trans h.len, fun b hb => (h2.at_ b hb).trans (h.at_ b hb)⟩
theorem KeepN.set {N n : Nat} {S : Sto} {c : Cell} (h : n < N) : KeepN N S (S.set n c) := ⟨List.length_set, fun b hb => List.getElem?_set_ne (by omega)⟩
section
variable {S : Sto} {x y v : D} {N n : Nat}
theorem mulA_r {i j : Int} (h : small j = true) : opMulA false (.int i) (.int j) S = some (.int (i * j), S) := by
  show (if small i = true ∨ small j = true then _ else _) = _
  rw [if_pos (.inr h)]
theorem lt_int {i j : Int} : opCmp (fun i j => decide (i < j)) (.int i) (.int j) S = some (.bl (decide (i < j)), S) := rfl
theorem ge_int {i j : Int} : opCmp (fun i j => decide (j ≤ i)) (.int i) (.int j) S = some (.bl (decide (j ≤ i)), S) := rfl
theorem dMeth0_of {t : String} {op : OpM} {fo : DE} {G : Gam} {S S1 : Sto} {x : D} {r : Option (D × Sto)} (h1 : fo G S = some (x, S1)) (ht : tyD t S1 x = true) (h3 : op x [] S1 = r) : dMeth0 t op fo G S = r := by
  unfold dMeth0
  rw [h1]
  show (if tyD t S1 x = true then op x [] S1 else none) = r
  rw [if_pos ht]
  exact h3
end
end Vw
set_option maxRecDepth 100000
set_option maxHeartbeats 4000000
namespace Vw
open PySem PySem.Spec L2
theorem mulA_l {i j : Int} {S : Sto} (h : small i = true) : opMulA false (.int i) (.int j) S = some (.int (i * j), S) := by
  show (if small i = true ∨ small j = true then some (D.int (i * j), S) else none) = _
  rw [if_pos (.inl h)]
end Vw
set_option maxRecDepth 100000
set_option maxHeartbeats 4000000
namespace Vw
open PySem PySem.Spec L2
def KF : List Key := [.inr ("far" : Str), .inr ("one" : Str), .inr ("turn" : Str)]
def d_fddraw : DS :=
    (dSeq (dIte (dCmpT (opCmp fun i j => decide (i < j)) (dVar 1) (dCon (.int 2)))
    (dSeq (dRet (dCon (.int 0)))
    dSkip) dSkip)
    (dSeq (dIte (dCmpT (opEq true) (dBin opIx (dVar 0) (dCon (.str ("far" : Str)))) (dLst false dNil))
    (dSeq (dAsg (dMeth0 "list" opPop0 (dBin opIx (dVar 0) (dCon (.str ("far" : Str))))) (dgName 2))
    (dSeq (dIte (dCmpT (opCmp fun i j => decide (j ≤ i)) (dVar 2) (dVar 1))
    (dSeq (dExpr (dMeth "list" opAppend (dBin opIx (dVar 0) (dCon (.str ("far" : Str)))) (dCons (dBin opDiv (dVar 2) (dVar 1)) dNil)))
    dSkip) dSkip)
    (dSeq (dRet (dBin opMod (dCall opInt (dCons (dVar 2) dNil)) (dVar 1)))
    dSkip))) dSkip)
    (dSeq (dAsg (dBin (opAdd false) (dBin opIx (dVar 0) (dCon (.str ("turn" : Str)))) (dCon (.int 1))) (dgSub (dVar 0) (dCon (.str ("turn" : Str)))))
    (dSeq (dAsg (dBin opMod (dCall opInt (dCons (dBin (opAdd false) (dBin opIx (dVar 0) (dCon (.str ("one" : Str)))) (dBin (opMulA false) (dCon (.int 11400714819323198485)) (dBin opIx (dVar 0) (dCon (.str ("turn" : Str)))))) dNil)) (dCon (.int 18446744073709551557))) (dgName 3))
    (dSeq (dAsg (dBin opMod (dCall opInt (dCons (dBin (opAdd false) (dBin (opAdd false) (dBin (opMulA false) (dVar 3) (dVar 3)) (dBin (opMulA false) (dCon (.int 69069)) (dBin opIx (dVar 0) (dCon (.str ("turn" : Str)))))) (dCon (.int 13))) dNil)) (dCon (.int 18446744073709551557))) (dgName 3))
    (dSeq (dAsg (dBin opMod (dCall opInt (dCons (dBin (opAdd false) (dBin (opMulA false) (dVar 3) (dVar 3)) (dBin opIx (dVar 0) (dCon (.str ("one" : Str))))) dNil)) (dCon (.int 18446744073709551533))) (dgName 3))
    (dSeq (dRet (dBin opMod (dCall opInt (dCons (dBin opDiv (dVar 3) (dCon (.int 65536))) dNil)) (dVar 1)))
    dSkip)))))))
def fn_fddraw : DF := dDef 4 d_fddraw
/-- the cells below N are the deck's -/
structure Fek (N : Nat) (S : Sto) : Prop where
  ex : ∃ (n : Nat) (far : List Int) (mx tn : Int), S[1]? = some (Cell.dic KF [.loc n, .int mx, .int tn]) ∧ S[n]? = some (Cell.lst (far.map D.int)) ∧ n ≠ 1 ∧ n < N ∧ 1 < N ∧ (∀ x ∈ far, 0 ≤ x) ∧ far.length ≤ 1000
section
variable {S : Sto} {x y z v : D} {N n : Nat}
theorem fd_get (h : S[1]? = some (Cell.dic KF [x, y, z])) : opIx (.loc 1) (.str ("far" : Str)) S = some (x, S) ∧ opIx (.loc 1) (.str ("one" : Str)) S = some (y, S) ∧ opIx (.loc 1) (.str ("turn" : Str)) S = some (z, S) := by
  have e1 : seqD S (.loc 1) = none := by unfold seqD; dsimp only; rw [h]
  have e2 : dicD S (.loc 1) = some (KF, [x, y, z]) := by unfold dicD; dsimp only; rw [h]
  refine ⟨?_, ?_, ?_⟩ <;>
  · unfold opIx
    rw [e1]
    show (dicD S (.loc 1)).bind _ = _
    rw [e2]; rfl
theorem fd_put (h : S[1]? = some (Cell.dic KF [x, y, z])) : opPut (.loc 1) (.str ("one" : Str)) v S = some (S.set 1 (Cell.dic KF [x, v, z])) ∧ opPut (.loc 1) (.str ("turn" : Str)) v S = some (S.set 1 (Cell.dic KF [x, y, v])) := by
  constructor
  · unfold opPut
    dsimp only
    rw [show S[1]? = some (Cell.dic KF [x, y, z]) from h]; rfl
  · unfold opPut
    dsimp only
    rw [show S[1]? = some (Cell.dic KF [x, y, z]) from h]; rfl
theorem fd_draw {size : Int} (b : Fek N S) (h0 : 0 < size) (h1 : size < 1073741824) : ∃ (r : Nat) (S' : Sto), fn_fddraw [.loc 1, .int size] S = some (.int r, S') ∧ (r : Int) < size ∧ Fek N S' ∧ KeepN N S S' := by
  let G (d2 d3 : Option D) : Gam := [some (.loc 1), some (.int size), d2, d3]
  have c1 : dCmpT (opCmp fun i j => decide (i < j)) (dVar 1) (dCon (.int 2)) (G none none) S = some (decide (size < 2), S) := dCmpT_of rfl rfl lt_int
  have fin : ∀ (z : Int) (S' : Sto), ∃ r : Nat, (D.int (z % size), S') = (D.int (r : Nat), S') ∧ (r : Int) < size := fun z S' => ⟨(z % size).toNat, by rw [Int.toNat_of_nonneg (Int.emod_nonneg _ (by omega))], by have := Int.emod_lt_of_pos z h0; have := Int.emod_nonneg z (show size ≠ 0 by omega); omega⟩
  by_cases hs : size < 2
  · exact ⟨0, S, dFn_rt (G' := G none none) (dSeq_yes c1 (decide_eq_true hs) (dRetS_of rfl)), by omega, b, .refl⟩
  · obtain ⟨n, far, mx, tn, q1, qn, hn1, hnN, h1N, hf, hl⟩ := b.ex
    obtain ⟨gd, gm, gt⟩ := fd_get q1
    have k1 := decide_eq_false hs
    have gdeep : ∀ d2 d3, dBin opIx (dVar 0) (dCon (.str ("far" : Str))) (G d2 d3) S = some (.loc n, S) := fun _ _ => dBin_of (x := .loc 1) (S1 := S) rfl rfl gd
    have c2 : dCmpT (opEq true) (dBin opIx (dVar 0) (dCon (.str ("far" : Str)))) (dLst false dNil) (G none none) S = some (!far.isEmpty, S) := dCmpT_of (gdeep _ _) (y := .lst []) (S2 := S) rfl (ne_nil_ints qn)
    rcases List.eq_nil_or_concat far with rfl | ⟨fr, w, e⟩
    · let S1 : Sto := S.set 1 (Cell.dic KF [.loc n, .int mx, .int (tn + 1)])
      have l1 := (List.getElem?_eq_some_iff.mp q1).1
      have q11 : S1[1]? = some (Cell.dic KF [.loc n, .int mx, .int (tn + 1)]) := List.getElem?_set_self l1
      obtain ⟨gd1, gm1, gt1⟩ := fd_get q11
      let on1 : Int := (mx + 11400714819323198485 * (tn + 1)) % 18446744073709551557
      let on2 : Int := (on1 * on1 + 69069 * (tn + 1) + 13) % 18446744073709551557
      let one : Int := (on2 * on2 + mx) % 18446744073709551533
      have sm : ∀ z : Int, small (z % 18446744073709551557) = true := fun z => by
        have h1 := Int.emod_nonneg z (show (18446744073709551557 : Int) ≠ 0 by decide)
        have h2 := Int.emod_lt_of_pos z (show (0 : Int) < 18446744073709551557 by decide)
        exact small_of ⟨by omega, by omega⟩
      have so : small on1 = true := sm _
      have so2 : small on2 = true := sm _
      have f3 : dAsg (dBin (opAdd false) (dBin opIx (dVar 0) (dCon (.str ("turn" : Str)))) (dCon (.int 1))) (dgSub (dVar 0) (dCon (.str ("turn" : Str)))) (G none none) S = some (.nx, G none none, S1) := dAsgG_of (S1 := S) (d := .int (tn + 1)) (dBin_of (dBin_of (x := .loc 1) (S1 := S) rfl rfl gt) rfl add_int) (by
        show (((opPut (.loc 1) (.str ("turn" : Str)) (.int (tn + 1)) S).map fun S' => (G none none, S')) : Option (Gam × Sto)) = _
        rw [(fd_put q1).2]; rfl)
      have gtn : ∀ d2 d3, dBin opIx (dVar 0) (dCon (.str ("turn" : Str))) (G d2 d3) S1 = some (.int (tn + 1), S1) := fun d2 d3 => dBin_of (x := .loc 1) (S1 := S1) rfl rfl gt1
      have f4 : dAsg (dBin opMod (dCall opInt (dCons (dBin (opAdd false) (dBin opIx (dVar 0) (dCon (.str ("one" : Str)))) (dBin (opMulA false) (dCon (.int 11400714819323198485)) (dBin opIx (dVar 0) (dCon (.str ("turn" : Str)))))) dNil)) (dCon (.int 18446744073709551557))) (dgName 3) (G none none) S1 = some (.nx, G none (some (.int on1)), S1) :=
        dAsg_of (dBin_of (dCall_of (dOne_of (dBin_of (dBin_of (x := .loc 1) (S1 := S1) rfl rfl gm1) (dBin_of (x := .int 11400714819323198485) (S1 := S1) rfl (gtn _ _) (mulA_l (by decide +kernel))) add_int)) int_int) rfl (mod_int (by decide)))
      have f5 : dAsg (dBin opMod (dCall opInt (dCons (dBin (opAdd false) (dBin (opAdd false) (dBin (opMulA false) (dVar 3) (dVar 3)) (dBin (opMulA false) (dCon (.int 69069)) (dBin opIx (dVar 0) (dCon (.str ("turn" : Str)))))) (dCon (.int 13))) dNil)) (dCon (.int 18446744073709551557))) (dgName 3) (G none (some (.int on1))) S1 = some (.nx, G none (some (.int on2)), S1) :=
        dAsg_of (dBin_of (dCall_of (dOne_of (dBin_of (dBin_of (dBin_of (x := .int on1) (y := .int on1) (S1 := S1) (S2 := S1) rfl rfl (mulA_r so)) (dBin_of (x := .int 69069) (S1 := S1) rfl (gtn _ _) (mulA_l (by decide +kernel))) add_int) rfl add_int)) int_int) rfl (mod_int (by decide)))
      have f6 : dAsg (dBin opMod (dCall opInt (dCons (dBin (opAdd false) (dBin (opMulA false) (dVar 3) (dVar 3)) (dBin opIx (dVar 0) (dCon (.str ("one" : Str))))) dNil)) (dCon (.int 18446744073709551533))) (dgName 3) (G none (some (.int on2))) S1 = some (.nx, G none (some (.int one)), S1) :=
        dAsg_of (dBin_of (dCall_of (dOne_of (dBin_of (dBin_of (x := .int on2) (y := .int on2) (S1 := S1) (S2 := S1) rfl rfl (mulA_r so2)) (dBin_of (x := .loc 1) (S1 := S1) rfl rfl gm1) add_int)) int_int) rfl (mod_int (by decide)))
      obtain ⟨r, er, hr⟩ := fin (one / 65536) S1
      have f7 : dBin opMod (dCall opInt (dCons (dBin opDiv (dVar 3) (dCon (.int 65536))) dNil)) (dVar 1) (G none (some (.int one))) S1 = some (.int r, S1) := by
        rw [← er]
        exact dBin_of (dCall_of (dOne_of (dBin_of (x := .int one) (S1 := S1) rfl rfl (div_int (by decide) (by decide)))) int_int) (y := .int size) (S2 := S1) rfl (mod_int h0)
      refine ⟨r, S1, dFn_rt (G' := G none (some (.int one))) ((dSeq_no c1 k1).trans ((dSeq_no c2 rfl).trans ((dSeq_nx f3).trans ((dSeq_nx f4).trans ((dSeq_nx f5).trans ((dSeq_nx f6).trans (dRetS_of f7))))))), hr, ⟨n, [], mx, tn + 1, q11, ?_, hn1, hnN, h1N, hf, hl⟩, KeepN.set h1N⟩
      rw [List.getElem?_set_ne (fun h => hn1 h.symm)]; exact qn
    · subst e
      rw [List.concat_eq_append] at *
      have hw : 0 ≤ w := hf w (by simp)
      have qn' : S[n]? = some (Cell.lst (fr.map D.int ++ [.int w])) := by rw [qn, List.map_append]; rfl
      let S1 : Sto := S.set n (Cell.lst (fr.map D.int))
      have q11 : S1[1]? = some (Cell.dic KF [.loc n, .int mx, .int tn]) := by show (S.set n _)[1]? = _; rw [List.getElem?_set_ne hn1]; exact q1
      have qn1 : S1[n]? = some (Cell.lst (fr.map D.int)) := List.getElem?_set_self (List.getElem?_eq_some_iff.mp qn).1
      have f3 : dAsg (dMeth0 "list" opPop0 (dBin opIx (dVar 0) (dCon (.str ("far" : Str))))) (dgName 2) (G none none) S = some (.nx, G (some (.int w)) none, S1) := dAsg_of (dMeth0_of (gdeep _ _) (tyD_loc qn) (pop0_of qn'))
      have hfl : fr.length < 1000 := by rw [List.length_append, List.length_singleton] at hl; omega
      let G2 : Gam := G (some (.int w)) none
      have c4 : dCmpT (opCmp fun i j => decide (j ≤ i)) (dVar 2) (dVar 1) G2 S1 = some (decide (size ≤ w), S1) := dCmpT_of (x := .int w) (y := .int size) (S1 := S1) (S2 := S1) rfl rfl ge_int
      have tail : ∀ S2, ∃ r : Nat, dSeq (dRet (dBin opMod (dCall opInt (dCons (dVar 2) dNil)) (dVar 1))) dSkip G2 S2 = some (.rt (.int r), G2, S2) ∧ (r : Int) < size := fun S2 => by
        obtain ⟨r, er, hr⟩ := fin w S2
        refine ⟨r, dRetS_of ?_, hr⟩
        rw [← er]
        exact dBin_of (dCall_of (dOne_of (d := .int w) (S1 := S2) rfl) int_int) (y := .int size) (S2 := S2) rfl (mod_int h0)
      have hf1 : ∀ x ∈ fr, 0 ≤ x := fun x hx => hf x (by simp [hx])
      by_cases hz : size ≤ w
      · rw [decide_eq_true hz] at c4
        let S2 : Sto := S1.set n (Cell.lst (fr.map D.int ++ [.int (w / size)]))
        have f4 : dExpr (dMeth "list" opAppend (dBin opIx (dVar 0) (dCon (.str ("far" : Str)))) (dCons (dBin opDiv (dVar 2) (dVar 1)) dNil)) G2 S1 = some (.nx, G2, S2) :=
          dExpr_of (dMeth_of (x := .loc n) (S1 := S1) (dBin_of (x := .loc 1) (S1 := S1) rfl rfl (fd_get q11).1) (tyD_loc qn1) (dOne_of (dBin_of (x := .int w) (y := .int size) (S1 := S1) (S2 := S1) rfl rfl (div_int h0 h1))) (app_loc qn1 (by rw [List.length_map]; show fr.length < 1000000; omega)))
        obtain ⟨r, e5, hr⟩ := tail S2
        refine ⟨r, S2, dFn_rt (G' := G2) ((dSeq_no c1 k1).trans (dSeq_yes c2 (by simp) ((dSeq_nx f3).trans ((dSeq_nx (G' := G2) (S' := S2) ((dIte_t c4).trans ((dSeq_nx f4).trans rfl))).trans e5)))), hr, ⟨n, fr ++ [w / size], mx, tn, ?_, ?_, hn1, hnN, h1N, fun x hx => ?_, by rw [List.length_append, List.length_singleton]; omega⟩, (KeepN.set hnN).trans (KeepN.set hnN)⟩
        · show (S1.set n _)[1]? = _
          rw [List.getElem?_set_ne hn1]; exact q11
        · rw [List.map_append]
          exact List.getElem?_set_self (List.getElem?_eq_some_iff.mp qn1).1
        · rcases List.mem_append.mp hx with hx | hx
          · exact hf1 x hx
          · rw [List.mem_singleton.mp hx]; exact Int.ediv_nonneg hw (by omega)
      · rw [decide_eq_false hz] at c4
        obtain ⟨r, e5, hr⟩ := tail S1
        exact ⟨r, S1, dFn_rt (G' := G2) ((dSeq_no c1 k1).trans (dSeq_yes c2 (by simp) ((dSeq_nx f3).trans ((dSeq_nx (G' := G2) (S' := S1) ((dIte_f c4).trans rfl)).trans e5)))), hr, ⟨n, fr, mx, tn, q11, qn1, hn1, hnN, h1N, hf1, by omega⟩, KeepN.set hnN⟩
end
end Vw
set_option maxRecDepth 100000
set_option maxHeartbeats 4000000
namespace Vw
open PySem PySem.Spec L2
end Vw
set_option maxRecDepth 100000
set_option maxHeartbeats 4000000
namespace Vw
open PySem PySem.Spec L2
/-- what lies behind the deck's cells stays as it is, and more may come -/
structure KeepG (N : Nat) (S S' : Sto) : Prop where
  len : S.length ≤ S'.length
  at_ : ∀ b, N ≤ b → b < S.length → S'[b]? = S[b]?
theorem KeepG.refl {N : Nat} {S : Sto} : KeepG N S S := ⟨Nat.le_refl _, fun _ _ _ => rfl⟩
theorem KeepN.grow {N : Nat} {S S' : Sto} (h : KeepN N S S') : KeepG N S S' := ⟨by rw [h.len]; omega, fun b hb _ => h.at_ b hb⟩
theorem KeepG.trans {N : Nat} {S S1 S2 : Sto} (h : KeepG N S S1) (h2 : KeepG N S1 S2) : KeepG N S S2 := ⟨Nat.le_trans h.len h2.len, fun b hb hl => (h2.at_ b hb (by have := h.len; omega)).trans (h.at_ b hb hl)⟩
theorem KeepG.app {N : Nat} {S R : Sto} : KeepG N S (S ++ R) := ⟨by rw [List.length_append]; omega, fun b _ hl => List.getElem?_append_left hl⟩
theorem KeepG.put {N a : Nat} {S S' : Sto} {c : Cell} (h : KeepG N S S') (ha : S.length ≤ a) : KeepG N S (S'.set a c) := ⟨by rw [List.length_set]; exact h.len, fun b hb hl => by rw [List.getElem?_set_ne (by omega)]; exact h.at_ b hb hl⟩
theorem Deck.app {N : Nat} {S R : Sto} (b : Deck N S) : Deck N (S ++ R) := by
  obtain ⟨n, far, st, q1, qn, r⟩ := b.ex
  exact ⟨n, far, st, by rw [List.getElem?_append_left (List.getElem?_eq_some_iff.mp q1).1]; exact q1, by rw [List.getElem?_append_left (List.getElem?_eq_some_iff.mp qn).1]; exact qn, r⟩
theorem Deck.put {N a : Nat} {S : Sto} {c : Cell} (b : Deck N S) (h : N ≤ a) : Deck N (S.set a c) := by
  obtain ⟨n, far, st, q1, qn, h1, h2, h3, r⟩ := b.ex
  exact ⟨n, far, st, by rw [List.getElem?_set_ne (by omega)]; exact q1, by rw [List.getElem?_set_ne (by omega)]; exact qn, h1, h2, h3, r⟩
end Vw
set_option maxRecDepth 100000
set_option maxHeartbeats 4000000
namespace Vw
open PySem PySem.Spec L2
end Vw
set_option maxRecDepth 100000
set_option maxHeartbeats 4000000
namespace Vw
open PySem PySem.Spec L2
/-- the pairs below row i, and of row i those before j, are drawn -/
structure DoneL (k i j : Nat) (M : Nat → Nat → Str) : Prop where
  dia : ∀ a, a < k → M a a = wDash
  pair : ∀ a b, a < b → b < k → (b < i ∨ (b = i ∧ a < j)) → PairOk four (M a b) (M b a)
theorem DoneL.step {k i j : Nat} {M : Nat → Nat → Str} {x y : Str} (d : DoneL k i j M) (hji : j < i) (hi : i < k) (p : PairOk four y x) : DoneL k i (j + 1) (upd2 (upd2 M i j x) j i y) := by
  have e : ∀ a b, upd2 (upd2 M i j x) j i y a b = if a = j ∧ b = i then y else if a = i ∧ b = j then x else M a b := fun a b => by
    unfold upd2 upd1
    by_cases h1 : a = j
    · subst h1
      by_cases h2 : b = i
      · subst h2; simp
      · have : ¬ a = i := by omega
        simp [h2, this]
    · by_cases h2 : a = i
      · subst h2
        by_cases h3 : b = j <;> simp [h1, h3]
      · simp [h1, h2]
  refine ⟨fun a ha => ?_, fun a b hab hb h => ?_⟩
  · rw [e, if_neg (by omega), if_neg (by omega)]; exact d.dia a ha
  · by_cases h1 : a = j ∧ b = i
    · obtain ⟨rfl, rfl⟩ := h1
      rw [e, e, if_pos ⟨rfl, rfl⟩, if_neg (by omega), if_pos ⟨rfl, rfl⟩]
      exact p
    · rw [e, e, if_neg h1, if_neg (by omega), if_neg (by omega), if_neg (by omega)]
      exact d.pair a b hab hb (by omega)
theorem DoneL.done {k : Nat} {M : Nat → Nat → Str} (d : DoneL k k 0 M) : Done four k k k M := ⟨d.dia, fun a b hab hb _ => d.pair a b hab hb (.inl hb)⟩
theorem DoneL.next {k i : Nat} {M : Nat → Nat → Str} (d : DoneL k i i M) : DoneL k (i + 1) 0 M := ⟨d.dia, fun a b hab hb h => d.pair a b hab hb (by omega)⟩
theorem dgSub_of {fo fi : DE} {d o i : D} {G : Gam} {S S1 S2 S3 : Sto} (h1 : fo G S = some (o, S1)) (h2 : fi G S1 = some (i, S2)) (h3 : opPut o i d S2 = some S3) : dgSub fo fi d G S = some (G, S3) := by
  unfold dgSub
  rw [h1]
  show ((fi G S1).bind fun q => (opPut o q.1 d q.2).map fun S' => (G, S')) = _
  rw [h2]
  show ((opPut o i d S2).map fun S' => (G, S')) = _
  rw [h3]; rfl
theorem dgTwo_of {g1 g2 : DG} {x y : D} {G G1 G2 : Gam} {S S1 S2 : Sto} (h1 : g1 x G S = some (G1, S1)) (h2 : g2 y G1 S1 = some (G2, S2)) : dgTup 2 (dgCons g1 (dgCons g2 dgNil)) (.tup [x, y]) G S = some (G2, S2) := by
  show ((g1 x G S).bind fun p => (g2 y p.1 p.2).bind fun q => some (q.1, q.2)) = _
  rw [h1]
  show ((g2 y G1 S1).bind fun q => some (q.1, q.2)) = _
  rw [h2]; rfl
end Vw
set_option maxRecDepth 100000
set_option maxHeartbeats 4000000
namespace Vw
open PySem PySem.Spec L2
end Vw
set_option maxRecDepth 100000
set_option maxHeartbeats 4000000
namespace Vw
open PySem PySem.Spec L2
theorem Bag.cell {n : Nat} {S : Sto} {c : Cell} (b : Bag n S) : Bag n (S ++ [c]) := b.push
theorem cut_take {xs : List D} {i : Nat} (h : i ≤ xs.length) : cutD xs none (some (i : Int)) = xs.take i := by
  unfold cutD
  rw [HT.sIx_nat, HT.sIx_none, List.drop_zero, Nat.sub_zero, Nat.min_eq_left h]
theorem cut_drop {xs : List D} {i : Nat} (h : i ≤ xs.length) : cutD xs (some (i : Int)) none = xs.drop i := by
  unfold cutD
  rw [HT.sIx_nat, HT.sIx_none, Nat.min_eq_left h]
  exact List.take_of_length_le (by rw [List.length_drop]; omega)
theorem dSlT_of {c : Bool} {fe : DE} {fl fh : DO} {G : Gam} {S S1 S2 S3 : Sto} {xs : List D} {l h : Option Int} (h1 : fe G S = some (.tup xs, S1)) (h2 : fl G S1 = some (l, S2)) (h3 : fh G S2 = some (h, S3)) (hl : (cutD xs l h).length ≤ 1000000) : dSlG c fe fl fh G S = some (.tup (cutD xs l h), S3) := by
  unfold dSlG
  simp only [h1, Option.bind_some, h2, h3]
  exact okt hl
section
variable {k : Nat} {M : Nat → Nat → Str} {ws : List (List Int)} {es : List Int} {ps : List (Str × Nat)} {tk : List ((Nat × Nat) × Nat)} {S : Sto} {i : Nat} {w : List Int} {p : Str × Nat}
def handT (tk : List ((Nat × Nat) × Nat)) (i j : Nat) : List ((Nat × Nat) × Nat) := tk.map fun t => (t.1, if isTok (min i j) (max i j) t = true then j else t.2)
def handP (es : List Int) (i n t : Nat) : Str × Nat := if decide (t + 1 < n) = true then ("hand", t + 1) else if decide ((i : Int) ∈ es) = true then ("wish", 0) else ("look", 0)
def begunP (es : List Int) (own : List Int) (i : Nat) : Str × Nat := if decide ((i : Int) ∈ es ∧ own ≠ []) = true then ("hand", 0) else ("wish", 0)
def raisedP (es : List Int) (own : List Int) (i : Nat) : Str × Nat := if decide (own ≠ [] ∧ ¬ (i : Int) ∈ es) = true then ("hand", 0) else ("look", 0)
def onP (k t : Nat) : Str × Nat := if decide (t + 2 = k) = true then ("in", 0) else ("look", t + 1)
def afterS (k : Nat) (M : Nat → Nat → Str) (es : List Int) (ps : List (Str × Nat)) (tk : List ((Nat × Nat) × Nat)) (w : List Int) (i : Nat) (p : Str × Nat) (j : Nat) (q : Str × Nat) : List (Str × Nat) × List ((Nat × Nat) × Nat) :=
  let own := evL M w i
  if p.1 = ("rest" : Str) then (ps.set i (begunP es own i), tk)
  else if p.1 = ("in" : Str) then (ps.set i ("rest", 0), tk)
  else if p.1 = ("yield" : Str) then (ps.set i ("low", p.2), tk)
  else if p.1 = ("wish" : Str) then (ps.set i (raisedP es own i), tk)
  else if p.1 = ("hand" : Str) then (ps.set i (handP es i own.length p.2), handT tk i (own.getD p.2 0).toNat)
  else if p.1 = ("anew" : Str) then (ps.set i (onP k p.2), tk)
  else if p.1 = ("low" : Str) then (if decide (flagS es q.1 j = ("down" : Str)) = true then (ps.set i (if decide (M i j = ("slip" : Str)) = true then ("anew", p.2) else begunP es own i), tk) else (ps, tk))
  else if goesS M es ps tk i j q = true then (ps.set i (onP k p.2), tk)
  else if decide (M i j ∈ (["bow", "slip"] : List Str)) = true then (ps.set i ("yield", p.2), tk)
  else (ps, tk)
theorem ne_own {own : List Int} : opEq true (.lst (intL own)) (.lst []) S = some (.bl (decide (own ≠ [])), S) := by
  unfold opEq eqD
  rw [show eqS (.lst (intL own)) (.lst []) = none from rfl]
  show (eqP S (.lst (intL own)) (.lst [])).map _ = _
  unfold eqP
  have e1 : pyOf S (.lst (intL own)) = some (.list (own.map PyData.int)) := by
    show (toPs _ (own.map D.int)).map _ = _
    rw [pys_ints]; rfl
  have e2 : pyOf S (.lst []) = some (.list []) := rfl
  rw [e1, e2]
  simp only [Option.bind_some]
  rw [shaped_ints, show SeqAt.shaped (.list []) = true from shaped_ints []]
  cases own with
  | nil => rfl
  | cons x xs => rfl
end
end Vw
set_option maxRecDepth 100000
set_option maxHeartbeats 4000000
namespace Vw
open PySem PySem.Spec L2
def d_iswhole : DS :=
    (dSeq (dRet (dAndV (dIsi "int" (dVar 0)) (dNotV (dIsi "bool" (dVar 0)))))
    dSkip)
def fn_iswhole : DF := dDef 1 d_iswhole
def d_ishand : DS :=
    (dSeq (dRet (dAndV (dCallF 1 (dCons (dVar 0) dNil) fn_iswhole) (dChain (opCmp fun i j => decide (i ≤ j)) (opCmp fun i j => decide (i < j)) (dCon (.int 0)) (dVar 0) (dVar 1))))
    dSkip)
def fn_ishand : DF := dDef 2 d_ishand
def d_isrow : DS :=
    (dSeq (dIte (dOr (dNot (dTst (dIsi "tuple" (dVar 0)))) (dCmpT (opEq true) (dCall opLen (dCons (dVar 0) dNil)) (dVar 2)))
    (dSeq (dRet (dCon (.bl false)))
    dSkip) dSkip)
    (dSeq (dAsg (dBin (opAdd false) (dSlG false (dVar 0) doNone (doSome (dVar 1))) (dSlG false (dVar 0) (doSome (dBin (opAdd false) (dVar 1) (dCon (.int 1)))) doNone)) (dgName 3))
    (dSeq (dRet (dAndV (dBin (opEq false) (dBin opIx (dVar 0) (dVar 1)) (dCon (.str ("-" : Str)))) (dCall opAll (dCons (dLc false [4] (dSeqI (dVar 3)) (dgName 4) dYes (dBin (opIn false) (dVar 4) (dCon (.tup [.str ("stand" : Str), .str ("bow" : Str), .str ("even" : Str), .str ("pass" : Str), .str ("slip" : Str)])))) dNil))))
    dSkip)))
def fn_isrow : DF := dDef 5 d_isrow
def d_tableerror : DS :=
    (dSeq (dAsg (dCall opLen (dCons (dVar 0) dNil)) (dgName 1))
    (dSeq (dFor (dRng1 (dCons (dVar 1) dNil)) (dgName 2)
    (dSeq (dIte (dNot (dTst (dCallF 3 (dCons (dBin opIx (dVar 0) (dVar 2)) (dCons (dVar 2) (dCons (dVar 1) dNil))) fn_isrow)))
    (dSeq (dRet (dTup (dCons (dCon (.str ("row" : Str))) (dCons (dVar 2) dNil))))
    dSkip) dSkip)
    dSkip))
    (dSeq (dFor (dRng1 (dCons (dVar 1) dNil)) (dgName 3)
    (dSeq (dFor (dRng2 (dCons (dBin (opAdd false) (dVar 3) (dCon (.int 1))) (dCons (dVar 1) dNil))) (dgName 4)
    (dSeq (dIte (dCmpT (opEq true) (dBin (opEq false) (dBin opIx (dBin opIx (dVar 0) (dVar 3)) (dVar 4)) (dCon (.str ("even" : Str)))) (dBin (opEq false) (dBin opIx (dBin opIx (dVar 0) (dVar 4)) (dVar 3)) (dCon (.str ("even" : Str)))))
    (dSeq (dRet (dTup (dCons (dCon (.str ("even" : Str))) (dCons (dVar 3) (dCons (dVar 4) dNil)))))
    dSkip) dSkip)
    dSkip))
    dSkip))
    (dSeq (dRet (dCon .non))
    dSkip))))
def fn_tableerror : DF := dDef 5 d_tableerror
def d_isform : DS :=
    (dSeq (dIte (dOr (dNot (dTst (dIsi "tuple" (dVar 0)))) (dCmpT (opEq true) (dCall opLen (dCons (dVar 0) dNil)) (dCon (.int 3))))
    (dSeq (dRet (dCon (.bl false)))
    dSkip) dSkip)
    (dSeq (dRet (dCall opAll (dCons (dLc false [1] (dSeqI (dVar 0)) (dgName 1) dYes (dIsi "tuple" (dVar 1))) dNil)))
    dSkip))
def fn_isform : DF := dDef 2 d_isform
def d_isearly : DS :=
    (dSeq (dIte (dNot (dTst (dCall opAll (dCons (dLc false [2] (dSeqI (dVar 0)) (dgName 2) dYes (dCallF 2 (dCons (dVar 2) (dCons (dVar 1) dNil)) fn_ishand)) dNil))))
    (dSeq (dRet (dCon (.bl false)))
    dSkip) dSkip)
    (dSeq (dRet (dCall opAll (dCons (dLc false [3] (dRng1 (dCons (dBin opSub (dCall opLen (dCons (dVar 0) dNil)) (dCon (.int 1))) dNil)) (dgName 3) dYes (dBin (opCmp fun i j => decide (i < j)) (dBin opIx (dVar 0) (dVar 3)) (dBin opIx (dVar 0) (dBin (opAdd false) (dVar 3) (dCon (.int 1)))))) dNil)))
    dSkip))
def fn_isearly : DF := dDef 4 d_isearly
def d_othersof : DS :=
    (dSeq (dRet (dLc false [2] (dRng1 (dCons (dVar 1) dNil)) (dgName 2) (dCmpT (opEq true) (dVar 2) (dVar 0)) (dVar 2)))
    dSkip)
def fn_othersof : DF := dDef 3 d_othersof
def d_isorder : DS :=
    (dSeq (dIte (dOr (dNot (dTst (dIsi "tuple" (dVar 0)))) (dNot (dTst (dCall opAll (dCons (dLc false [3] (dSeqI (dVar 0)) (dgName 3) dYes (dCallF 2 (dCons (dVar 3) (dCons (dVar 2) dNil)) fn_ishand)) dNil)))))
    (dSeq (dRet (dCon (.bl false)))
    dSkip) dSkip)
    (dSeq (dRet (dBin (opEq false) (dCall (opSortedA false) (dCons (dVar 0) dNil)) (dCallF 2 (dCons (dVar 1) (dCons (dVar 2) dNil)) fn_othersof)))
    dSkip))
def fn_isorder : DF := dDef 4 d_isorder
def d_mannerserror : DS :=
    (dSeq (dIte (dNot (dTst (dCallF 1 (dCons (dVar 0) dNil) fn_isform)))
    (dSeq (dRet (dCon (.str ("form" : Str))))
    dSkip) dSkip)
    (dSeq (dAsg (dVar 0) (dgTup 3 (dgCons (dgName 1) (dgCons (dgName 2) (dgCons (dgName 3) dgNil)))))
    (dSeq (dAsg (dCall opLen (dCons (dVar 1) dNil)) (dgName 4))
    (dSeq (dIte (dNot (dTst (dChain (opCmp fun i j => decide (i ≤ j)) (opCmp fun i j => decide (i ≤ j)) (dCon (.int 2)) (dVar 4) (dCon (.int 6)))))
    (dSeq (dRet (dCon (.str ("hands" : Str))))
    dSkip) dSkip)
    (dSeq (dAsg (dCallF 1 (dCons (dVar 1) dNil) fn_tableerror) (dgName 5))
    (dSeq (dIte (dCmpT (opIsN true) (dVar 5) (dCon .non))
    (dSeq (dRet (dVar 5))
    dSkip) dSkip)
    (dSeq (dIte (dCmpT (opEq true) (dCall opLen (dCons (dVar 2) dNil)) (dVar 4))
    (dSeq (dRet (dCon (.str ("orders" : Str))))
    dSkip) dSkip)
    (dSeq (dFor (dRng1 (dCons (dVar 4) dNil)) (dgName 6)
    (dSeq (dIte (dNot (dTst (dCallF 3 (dCons (dBin opIx (dVar 2) (dVar 6)) (dCons (dVar 6) (dCons (dVar 4) dNil))) fn_isorder)))
    (dSeq (dRet (dTup (dCons (dCon (.str ("order" : Str))) (dCons (dVar 6) dNil))))
    dSkip) dSkip)
    dSkip))
    (dSeq (dIte (dNot (dTst (dCallF 2 (dCons (dVar 3) (dCons (dVar 4) dNil)) fn_isearly)))
    (dSeq (dRet (dCon (.str ("early" : Str))))
    dSkip) dSkip)
    (dSeq (dRet (dCon .non))
    dSkip))))))))))
def fn_mannerserror : DF := dDef 7 d_mannerserror
def d_risingorders : DS :=
    (dSeq (dRet (dGen [none, some 0] (dRng1 (dCons (dVar 0) dNil)) (dgName 0) dYes (emElt (dCall opTuple (dCons (dCallF 2 (dCons (dVar 0) (dCons (dVar 1) dNil)) fn_othersof) dNil)))))
    dSkip)
def fn_risingorders : DF := dDef 1 d_risingorders
theorem for_pass {α : Type} {g : DG} {S : Sto} {src : Src} {b : DS} {l : List α} {e : α → D} (hsrc : ∀ i, src i S = some (l.map e)[i]?) (R : Gam → Prop)
    (step : ∀ x ∈ l, ∀ G, R G → ∃ G1 G2, g (e x) G S = some (G1, S) ∧ b G1 S = some (.nx, G2, S) ∧ R G2) (G : Gam) (hR : R G) : ∃ G', dLoop src g b (l.length + 1) 0 G S = some (.nx, G', S) ∧ R G' := by
  obtain ⟨G', e1, h⟩ := for_find (S := S) (g := g) (b := b) (l := l) (e := e) hsrc R (fun _ => none) (fun x hx G hR => by
    obtain ⟨G1, G2, a, b, c⟩ := step x hx G hR
    exact ⟨G1, G2, a, b, c⟩) l.length 0 G (by omega) hR
  have : ∀ l : List α, l.findSome? (fun _ => (none : Option D)) = none := fun l => by
    induction l with
    | nil => rfl
    | cons a l ih => exact ih
  rw [this] at e1
  exact ⟨G', e1, h⟩
theorem all_true {S : Sto} : ∀ {n : Nat}, opAll [.lst (List.replicate n (.bl true))] S = some (.bl true, S) := fun {n} => by
  have h1 : ∀ n, blsD (List.replicate n (D.bl true)) = some (List.replicate n true) := fun n => by
    induction n with
    | zero => rfl
    | succ n ih =>
      show (blsD (List.replicate n (D.bl true))).map (true :: ·) = _
      rw [ih]; rfl
  show ((blsD (List.replicate n (D.bl true))).map fun bs => (D.bl (bs.all id), S)) = _
  rw [h1]
  have h2 : (List.replicate n true).all id = true := by simp
  show some (D.bl ((List.replicate n true).all id), S) = _
  rw [h2]
theorem lc_all {α : Type} {own : List Nat} {w : DI} {g : DG} {src : Src} {n : Nat} {f : DE} {G : Gam} {S S0 : Sto} {l : List α} {e : α → D} (hw : w G S0 = some (src, n, S)) (hn : n = l.length + 1) (hl : l.length ≤ 1000000) (hsrc : ∀ i, src i S = some (l.map e)[i]?)
    (step : ∀ x ∈ l, ∃ G1, g (e x) (wipeG G own) S = some (G1, S) ∧ f G1 S = some (.bl true, S)) :
    dCall opAll (dCons (dLc false own w g dYes f) dNil) G S0 = some (.bl true, S) := by
  have h := lc_pureY (c := false) (own := own) (g := g) (f := f) (l := l) (e := e) hw hn hsrc (fun _ => D.bl true) step
  rw [okv (by rw [List.length_map]; exact hl)] at h
  refine dCall_of (dOne_of h) ?_
  have : l.map (fun _ => D.bl true) = List.replicate l.length (D.bl true) := by
    induction l with
    | nil => rfl
    | cons a l ih => rw [List.map_const']
  rw [this]
  exact all_true
theorem isi_tup {f : DE} {G : Gam} {S S1 : Sto} {ds : List D} (h : f G S = some (.tup ds, S1)) : dIsi "tuple" f G S = some (.bl true, S1) := by
  unfold dIsi
  rw [h]; rfl
theorem isi_int {f : DE} {G : Gam} {S S1 : Sto} {i : Int} (h : f G S = some (.int i, S1)) : dIsi "int" f G S = some (.bl true, S1) := by
  unfold dIsi
  rw [h]; rfl
theorem isi_bool {f : DE} {G : Gam} {S S1 : Sto} {i : Int} (h : f G S = some (.int i, S1)) : dIsi "bool" f G S = some (.bl false, S1) := by
  unfold dIsi
  rw [h]
  show ((some "int").bind fun t => (kitB t "bool").map fun b => (D.bl b, S1)) = _
  have : kitB "int" "bool" = some false := by decide +kernel
  show ((kitB "int" "bool").map fun b => (D.bl b, S1)) = _
  rw [this]; rfl
theorem dAndV_of {a b : DE} {G : Gam} {S : Sto} {x y : Bool} (h1 : a G S = some (.bl x, S)) (h2 : b G S = some (.bl y, S)) : dAndV a b G S = some (.bl (x && y), S) := by
  unfold dAndV
  rw [dTst_of h1]
  cases x
  · rfl
  · exact h2
theorem dNotV_of {a : DE} {G : Gam} {S : Sto} {x : Bool} (h1 : a G S = some (.bl x, S)) : dNotV a G S = some (.bl (!x), S) := by
  unfold dNotV
  rw [dTst_of h1]; rfl
theorem iswhole_ok {S : Sto} {i : Int} : fn_iswhole [.int i] S = some (.bl true, S) :=
  dFn_rt (G' := [some (.int i)]) (dRetS_of (dAndV_of (isi_int rfl) (dNotV_of (isi_bool rfl))))
theorem dChain_of {op op' : D → D → Sto → Option (D × Sto)} {fa fb fc : DE} {G : Gam} {S : Sto} {x y z : D} {r : Option (D × Sto)} (h1 : fa G S = some (x, S)) (h2 : fb G S = some (y, S)) (h3 : op x y S = some (.bl true, S)) (h4 : fc G S = some (z, S)) (h5 : op' y z S = r) : dChain op op' fa fb fc G S = r := by
  unfold dChain
  simp only [h1, h2, h3, h4, h5, Option.bind_some]
theorem cmp_true {p : Int → Int → Bool} {a b : Int} {S : Sto} (h : p a b = true) : opCmp p (.int a) (.int b) S = some (.bl true, S) := by
  show some (D.bl (p a b), S) = _
  rw [h]
theorem ishand_ok {S : Sto} {k j : Nat} (h : j < k) : fn_ishand [.int j, .int k] S = some (.bl true, S) := by
  refine dFn_rt (G' := [some (.int j), some (.int k)]) (dRetS_of (dAndV_of (x := true) (y := true) (dCallF_of (ds := [.int j]) (S1 := S) rfl rfl iswhole_ok) ?_))
  exact dChain_of (x := .int 0) (y := .int j) (z := .int k) rfl rfl (cmp_true (decide_eq_true (by omega))) rfl (cmp_true (decide_eq_true (by omega)))
def words5 : List Str := ["stand", "bow", "even", "pass", "slip"]
theorem isrow_ok {S : Sto} {k i : Nat} {f : Nat → Str} (hk : k ≤ 10) (hi : i < k) (hd : f i = wDash) (ho : ∀ j, j < k → j ≠ i → f j ∈ words5) : fn_isrow [.tup (rowD k f), .int i, .int k] S = some (.bl true, S) := by
  let G0 : Gam := [some (.tup (rowD k f)), some (.int i), some (.int k), none, none]
  have hl : (rowD k f).length = k := rowD_len
  have c1 : dOr (dNot (dTst (dIsi "tuple" (dVar 0)))) (dCmpT (opEq true) (dCall opLen (dCons (dVar 0) dNil)) (dVar 2)) G0 S = some (false, S) := by
    have hlen := len_seq (S := S) (x := .tup (rowD k f)) rfl
    rw [hl] at hlen
    refine (dOr_of (dNot_of (dTst_of (isi_tup rfl))) (dCmpT_of (dCall_of (dOne_of rfl) hlen) rfl ne_int)).trans ?_
    rw [decide_eq_true rfl]; rfl
  let ot : List Str := (List.range i).map f ++ (List.range (k - (i + 1))).map fun t => f (i + 1 + t)
  have hot : (rowD k f).take i ++ (rowD k f).drop (i + 1) = ot.map D.str := by
    have e1 : (rowD k f).take i = ((List.range i).map f).map D.str := by
      refine List.ext_getElem? fun c => ?_
      by_cases hc : c < i
      · rw [List.getElem?_take_of_lt hc, rowD_get (by omega), List.getElem?_map, List.getElem?_map, List.getElem?_range hc]; rfl
      · rw [List.getElem?_eq_none (by rw [List.length_take]; omega), List.getElem?_eq_none (by simp; omega)]
    have e2 : (rowD k f).drop (i + 1) = ((List.range (k - (i + 1))).map fun t => f (i + 1 + t)).map D.str := by
      refine List.ext_getElem? fun c => ?_
      rw [List.getElem?_drop]
      by_cases hc : c < k - (i + 1)
      · rw [rowD_get (by omega), List.getElem?_map, List.getElem?_map, List.getElem?_range hc]; rfl
      · rw [List.getElem?_eq_none (by rw [hl]; omega), List.getElem?_eq_none (by simp; omega)]
    rw [e1, e2, ← List.map_append]
  have hol : ot.length ≤ 20 := by simp [ot]; omega
  have s1 : dSlG false (dVar 0) doNone (doSome (dVar 1)) G0 S = some (.tup ((rowD k f).take i), S) := by
    rw [← cut_take (by omega)]
    exact dSlT_of rfl rfl rfl (by rw [cut_take (by omega), List.length_take]; omega)
  have s2 : dSlG false (dVar 0) (doSome (dBin (opAdd false) (dVar 1) (dCon (.int 1)))) doNone G0 S = some (.tup ((rowD k f).drop (i + 1)), S) := by
    rw [← cut_drop (by omega)]
    exact dSlT_of (h := none) (l := some ((i + 1 : Nat) : Int)) rfl rfl rfl (by rw [cut_drop (by omega), List.length_drop]; omega)
  let G1 : Gam := [some (.tup (rowD k f)), some (.int i), some (.int k), some (.tup (ot.map D.str)), none]
  refine dFn_rt (G' := G1) ((dSeq_ite_f c1 rfl).trans ?_)
  refine (dSeq_nx (dAsg_of (d := .tup (ot.map D.str)) (S1 := S) (dBin_of s1 s2 ?_))).trans (dRetS_of ?_)
  · show okTup _ S = _
    rw [hot]
    exact okt (by rw [List.length_map]; omega)
  have a1 : dBin (opEq false) (dBin opIx (dVar 0) (dVar 1)) (dCon (.str ("-" : Str))) G1 S = some (.bl true, S) := by
    refine dBin_of (dBin_of rfl rfl (ix_seq' (ds := rowD k f) rfl (rowD_get hi))) rfl ?_
    rw [eq_str, decide_eq_true hd]
  have hw := dSeqI_t (f := dVar 3) (G := G1) (S := S) (S1 := S) (ds := ot.map D.str) rfl
  refine (dAndV_of a1 (lc_all (l := ot) (e := D.str) hw (by rw [List.length_map]) (by omega) fix_src fun x hx => ?_)).trans rfl
  refine ⟨[some (.tup (rowD k f)), some (.int i), some (.int k), some (.tup (ot.map D.str)), some (.str x)], rfl, ?_⟩
  have hx5 : x ∈ words5 := by
    rcases List.mem_append.mp hx with h | h
    · obtain ⟨j, hj, rfl⟩ := List.mem_map.mp h
      have := List.mem_range.mp hj
      exact ho j (by omega) (by omega)
    · obtain ⟨t, ht, rfl⟩ := List.mem_map.mp h
      have := List.mem_range.mp ht
      exact ho _ (by omega) (by omega)
  refine dBin_of (y := .tup (words5.map D.str)) (S1 := S) (S2 := S) rfl rfl ?_
  rw [in_strs, decide_eq_true hx5]; rfl
structure Mn (k : Nat) (M : Nat → Nat → Str) (ws : List (List Int)) (es : List Int) : Prop where
  lk : Lk k M ws es
  two : 2 ≤ k
  six : k ≤ 6
  dia : ∀ i, i < k → M i i = wDash
  off : ∀ i j, i < k → j < k → j ≠ i → M i j ∈ words5
  evn : ∀ i j, i < k → j < k → (M i j = wEven ↔ M j i = wEven)
section
variable {k : Nat} {M : Nat → Nat → Str} {ws : List (List Int)} {es : List Int} {S : Sto}
theorem tableerror_ok (N : Mn k M ws es) : fn_tableerror [gridD k M] S = some (.non, S) := by
  have hk := N.lk.k10
  let G (d2 d3 d4 : Option D) : Gam := [some (gridD k M), some (.int k), d2, d3, d4]
  have h1 := rng1_ok (fs := dCons (dVar 1) dNil) (k := k) (G := G none none none) (S := S) rfl (by omega)
  rw [rng_map] at h1
  obtain ⟨_, e1, d2, rfl⟩ := for_pass (S := S) (src := fixS ((List.range k).map fun i => D.int (i : Nat))) (g := dgName 2) (b := dSeq (dIte (dNot (dTst (dCallF 3 (dCons (dBin opIx (dVar 0) (dVar 2)) (dCons (dVar 2) (dCons (dVar 1) dNil))) fn_isrow)))
    (dSeq (dRet (dTup (dCons (dCon (.str ("row" : Str))) (dCons (dVar 2) dNil))))
    dSkip) dSkip)
    dSkip) (l := List.range k) (e := fun i => D.int (i : Nat)) fix_src (fun G' => ∃ d2, G' = G d2 none none)
    (fun i hi G' hR => by
      obtain ⟨d2, rfl⟩ := hR
      have hi := List.mem_range.mp hi
      refine ⟨G (some (.int i)) none none, G (some (.int i)) none none, rfl, ?_, _, rfl⟩
      exact (dSeq_ite_f (dNot_of (dTst_of (dCallF_of (ds := [.tup (rowD k (M i)), .int i, .int k]) (S1 := S) (dCons_of (dBin_of rfl rfl (ix_grid hi)) (dCons_of rfl (dOne_of rfl))) rfl (isrow_ok hk hi (N.dia i hi) fun j hj hne => N.off i j hi hj hne)))) rfl).trans rfl) (G none none none) ⟨none, rfl⟩
  rw [List.length_range] at e1
  have h2 := rng1_ok (fs := dCons (dVar 1) dNil) (k := k) (G := G d2 none none) (S := S) rfl (by omega)
  rw [rng_map] at h2
  obtain ⟨_, e2, d3, d4, rfl⟩ := for_pass (S := S) (src := fixS ((List.range k).map fun i => D.int (i : Nat))) (g := dgName 3) (b := dSeq (dFor (dRng2 (dCons (dBin (opAdd false) (dVar 3) (dCon (.int 1))) (dCons (dVar 1) dNil))) (dgName 4)
    (dSeq (dIte (dCmpT (opEq true) (dBin (opEq false) (dBin opIx (dBin opIx (dVar 0) (dVar 3)) (dVar 4)) (dCon (.str ("even" : Str)))) (dBin (opEq false) (dBin opIx (dBin opIx (dVar 0) (dVar 4)) (dVar 3)) (dCon (.str ("even" : Str)))))
    (dSeq (dRet (dTup (dCons (dCon (.str ("even" : Str))) (dCons (dVar 3) (dCons (dVar 4) dNil)))))
    dSkip) dSkip)
    dSkip))
    dSkip) (l := List.range k) (e := fun i => D.int (i : Nat)) fix_src (fun G' => ∃ d3 d4, G' = G d2 d3 d4)
    (fun i hi G' hR => by
      obtain ⟨d3, d4, rfl⟩ := hR
      have hi := List.mem_range.mp hi
      have h3 := rng2_ok (fs := dCons (dBin (opAdd false) (dVar 3) (dCon (.int 1))) (dCons (dVar 1) dNil)) (a := i + 1) (k := k) (G := G d2 (some (.int i)) d4) (S := S) rfl (by omega) (by omega)
      rw [rng_map2] at h3
      obtain ⟨_, e3, d4', rfl⟩ := for_pass (S := S) (src := fixS ((List.range (k - (i + 1))).map fun t => D.int ((i + 1 + t : Nat) : Int))) (g := dgName 4) (b := dSeq (dIte (dCmpT (opEq true) (dBin (opEq false) (dBin opIx (dBin opIx (dVar 0) (dVar 3)) (dVar 4)) (dCon (.str ("even" : Str)))) (dBin (opEq false) (dBin opIx (dBin opIx (dVar 0) (dVar 4)) (dVar 3)) (dCon (.str ("even" : Str)))))
        (dSeq (dRet (dTup (dCons (dCon (.str ("even" : Str))) (dCons (dVar 3) (dCons (dVar 4) dNil)))))
        dSkip) dSkip)
        dSkip) (l := List.range (k - (i + 1))) (e := fun t => D.int ((i + 1 + t : Nat) : Int)) fix_src (fun G' => ∃ d4, G' = G d2 (some (.int i)) d4)
        (fun t ht G' hR => by
          obtain ⟨d4, rfl⟩ := hR
          have ht := List.mem_range.mp ht
          refine ⟨G d2 (some (.int i)) (some (.int ((i + 1 + t : Nat) : Int))), G d2 (some (.int i)) (some (.int ((i + 1 + t : Nat) : Int))), rfl, ?_, _, rfl⟩
          refine (dSeq_ite_f (S1 := S) ?_ rfl).trans rfl
          refine dCmpT_of (x := .bl (decide (M i (i + 1 + t) = wEven))) (y := .bl (decide (M (i + 1 + t) i = wEven))) (S1 := S) (S2 := S) (dBin_of (dBin_of (dBin_of (x := gridD k M) (S1 := S) rfl rfl (ix_grid hi)) rfl (ix_row (by omega))) rfl eq_str) (dBin_of (dBin_of (dBin_of (x := gridD k M) (S1 := S) rfl rfl (ix_grid (by omega))) rfl (ix_row hi)) rfl eq_str) ?_
          have : decide (M i (i + 1 + t) = wEven) = decide (M (i + 1 + t) i = wEven) := decide_eq_decide.mpr (N.evn i (i + 1 + t) hi (by omega))
          rw [this]
          show some (D.bl (!decide (decide (M (i + 1 + t) i = wEven) = decide (M (i + 1 + t) i = wEven))), S) = _
          rw [decide_eq_true rfl]; rfl) (G d2 (some (.int i)) d4) ⟨d4, rfl⟩
      rw [List.length_range] at e3
      rw [List.length_map, List.length_range] at h3
      exact ⟨G d2 (some (.int i)) d4, G d2 (some (.int i)) d4', rfl, (dSeq_nx ((dFor_of h3).trans e3)).trans rfl, _, _, rfl⟩) (G d2 none none) ⟨none, none, rfl⟩
  rw [List.length_range] at e2
  refine dFn_rt (G' := G d2 d3 d4) ?_
  refine (dSeq_nx (dAsg_of (dCall_of (dOne_of rfl) len_grid))).trans ?_
  refine (dSeq_nx ((dFor_of h1).trans e1)).trans ?_
  refine (dSeq_nx ((dFor_of h2).trans e2)).trans ?_
  exact dRetS_of rfl
theorem eqvAll_ints : ∀ xs : List Int, PyData.eqvAll (xs.map PyData.int) (xs.map PyData.int) = true
  | [] => rfl
  | x :: xs => by
    show ((x == x) && PyData.eqvAll (xs.map PyData.int) (xs.map PyData.int)) = true
    rw [eqvAll_ints xs]; simp
theorem eq_ints {xs : List Int} : opEq false (.lst (intL xs)) (.lst (intL xs)) S = some (.bl true, S) := by
  unfold opEq eqD
  rw [show eqS (.lst (intL xs)) (.lst (intL xs)) = none from rfl]
  show (eqP S (.lst (intL xs)) (.lst (intL xs))).map _ = _
  unfold eqP
  have e1 : pyOf S (.lst (intL xs)) = some (.list (xs.map PyData.int)) := by
    show (toPs _ (xs.map D.int)).map _ = _
    rw [pys_ints]; rfl
  rw [e1]
  simp only [Option.bind_some]
  rw [shaped_ints]
  show ((some (PyData.eqvAll (xs.map PyData.int) (xs.map PyData.int))) : Option Bool).map _ = _
  rw [eqvAll_ints]; rfl
theorem others_sorted {k i : Nat} : (others k i).Pairwise (· ≤ ·) := by
  unfold others
  refine List.pairwise_map.mpr (List.Pairwise.imp (fun {a b} h => ?_) (List.Pairwise.filter _ (List.pairwise_lt_range (n := k))))
  have : a < b := h
  omega
theorem intsD_intL : ∀ xs : List Int, intsD (intL xs) = some xs
  | [] => rfl
  | x :: xs => by
    show (intsD (intL xs)).map (x :: ·) = _
    rw [intsD_intL xs]; rfl
theorem othersof_ok {i : Nat} (hk : k ≤ 10) : fn_othersof [.int i, .int k] S = some (.lst (intL (others k i)), S) := by
  let G : Gam := [some (.int i), some (.int k), none]
  have hr := rng1_ok (fs := dCons (dVar 1) dNil) (k := k) (G := G) (S := S) rfl (by omega)
  rw [rng_map] at hr
  have e1 := lc_pure (c := false) (own := [2]) (g := dgName 2) (t := dCmpT (opEq true) (dVar 2) (dVar 0)) (f := dVar 2) (l := List.range k) (e := fun j => D.int (j : Nat)) hr (by rw [List.length_range]) fix_src (fun j => decide (j ≠ i)) (fun j => D.int (j : Nat))
    (fun j hj => by
      refine ⟨[some (.int i), some (.int k), some (.int j)], rfl, ?_, fun _ => rfl⟩
      have : decide (j ≠ i) = !decide ((j : Int) = (i : Int)) := by
        by_cases h : j = i
        · subst h; simp
        · have : ¬ (j : Int) = (i : Int) := by omega
          simp [h, this]
      rw [this]
      exact dCmpT_of rfl rfl ne_int)
  have e2 : ((List.range k).filter fun j => decide (j ≠ i)).map (fun j => D.int (j : Nat)) = intL (others k i) := by
    unfold others
    show _ = (List.map _ _).map D.int
    rw [List.map_map]; rfl
  have hl := others_len k i
  rw [e2, okv (by rw [intL_len]; omega)] at e1
  exact dFn_rt (G' := G) (dRetS_of e1)
theorem isorder_ok {i : Nat} {w : List Int} (hk : k ≤ 10) (hp : w.Perm (others k i)) : fn_isorder [.tup (intL w), .int i, .int k] S = some (.bl true, S) := by
  let G : Gam := [some (.tup (intL w)), some (.int i), some (.int k), none]
  have hl := hp.length_eq
  have hol := others_len k i
  have hw := dSeqI_t (f := dVar 0) (G := G) (S := S) (S1 := S) (ds := intL w) rfl
  have c1 : dOr (dNot (dTst (dIsi "tuple" (dVar 0)))) (dNot (dTst (dCall opAll (dCons (dLc false [3] (dSeqI (dVar 0)) (dgName 3) dYes (dCallF 2 (dCons (dVar 3) (dCons (dVar 2) dNil)) fn_ishand)) dNil)))) G S = some (false, S) := by
    refine (dOr_of (dNot_of (dTst_of (isi_tup rfl))) (dNot_of (dTst_of (lc_all (l := w) (e := D.int) hw (by rw [intL_len]) (by omega) fix_src fun z hz => ?_)))).trans rfl
    obtain ⟨j, rfl, hj, _⟩ := others_mem (hp.mem_iff.mp hz)
    exact ⟨[some (.tup (intL w)), some (.int i), some (.int k), some (.int j)], rfl, dCallF_of (ds := [.int j, .int k]) (S1 := S) rfl rfl (ishand_ok hj)⟩
  have e1 : opSortedA false [.tup (intL w)] S = some (.lst (intL (others k i)), S) := by
    show ((intsD (intL w)).bind fun ns => if ns.length < 64 then okLst false ((sortI ns).map D.int) S else none) = _
    rw [intsD_intL]
    show (if w.length < 64 then okLst false ((sortI w).map D.int) S else none) = _
    rw [if_pos (by omega), ← sortI_only hp.symm others_sorted]
    exact okv (by rw [List.length_map]; omega)
  refine dFn_rt (G' := G) ((dSeq_ite_f c1 rfl).trans (dRetS_of (dBin_of (dCall_of (dOne_of rfl) e1) (dCallF_of (ds := [.int i, .int k]) (S1 := S) rfl rfl (othersof_ok hk)) eq_ints)))
theorem isform_ok : fn_isform [lockD k M ws es] S = some (.bl true, S) := by
  let G : Gam := [some (lockD k M ws es), none]
  have c1 : dOr (dNot (dTst (dIsi "tuple" (dVar 0)))) (dCmpT (opEq true) (dCall opLen (dCons (dVar 0) dNil)) (dCon (.int 3))) G S = some (false, S) :=
    (dOr_of (dNot_of (dTst_of (isi_tup rfl))) (dCmpT_of (dCall_of (dOne_of rfl) (len_seq rfl)) rfl ne_int)).trans rfl
  have hw := dSeqI_t (f := dVar 0) (G := G) (S := S) (S1 := S) (ds := [gridD k M, waysD ws, .tup (intL es)]) rfl
  refine dFn_rt (G' := G) ((dSeq_ite_f c1 rfl).trans (dRetS_of (lc_all (l := [gridD k M, waysD ws, .tup (intL es)]) (e := id) hw rfl (by show 3 ≤ 1000000; omega) (by rw [List.map_id]; exact fix_src) fun x hx => ⟨[some (lockD k M ws es), some x], rfl, ?_⟩)))
  rcases List.mem_cons.mp hx with rfl | hx
  · exact isi_tup rfl
  · rcases List.mem_cons.mp hx with rfl | hx
    · exact isi_tup rfl
    · rw [List.mem_singleton.mp hx]; exact isi_tup rfl
theorem isearly_nil : fn_isearly [.tup [], .int k] S = some (.bl true, S) := by
  let G : Gam := [some (.tup []), some (.int k), none, none]
  have hw := dSeqI_t (f := dVar 0) (G := G) (S := S) (S1 := S) (ds := []) rfl
  have c1 : dNot (dTst (dCall opAll (dCons (dLc false [2] (dSeqI (dVar 0)) (dgName 2) dYes (dCallF 2 (dCons (dVar 2) (dCons (dVar 1) dNil)) fn_ishand)) dNil))) G S = some (false, S) := dNot_of (dTst_of (lc_all (l := ([] : List D)) (e := id) hw rfl (by decide) fix_src fun x hx => by cases hx))
  have hr : dRng1 (dCons (dBin opSub (dCall opLen (dCons (dVar 0) dNil)) (dCon (.int 1))) dNil) G S = some (fixS [], 1, S) := by
    have q : dCons (dBin opSub (dCall opLen (dCons (dVar 0) dNil)) (dCon (.int 1))) dNil G S = some ([.int (-1)], S) := dOne_of (dBin_of (dCall_of (dOne_of rfl) (len_seq rfl)) rfl rfl)
    unfold dRng1 dRng
    rw [q]; rfl
  refine dFn_rt (G' := G) ((dSeq_ite_f c1 rfl).trans (dRetS_of (lc_all (l := ([] : List D)) (e := id) hr rfl (by decide) fix_src fun x hx => by cases hx)))
theorem mannerserror_ok (N : Mn k M ws []) : fn_mannerserror [lockD k M ws []] S = some (.non, S) := by
  have hk := N.lk.k10
  have h2 := N.two
  have h6 := N.six
  let G (d1 d2 d3 d4 d5 d6 : Option D) : Gam := [some (lockD k M ws []), d1, d2, d3, d4, d5, d6]
  let A : Option D := some (gridD k M)
  let B : Option D := some (waysD ws)
  let C : Option D := some (.tup [])
  let K : Option D := some (.int k)
  have c4 : dNot (dTst (dChain (opCmp fun i j => decide (i ≤ j)) (opCmp fun i j => decide (i ≤ j)) (dCon (.int 2)) (dVar 4) (dCon (.int 6)))) (G A B C K none none) S = some (false, S) := by
    refine dNot_of (b := true) (dTst_of ?_)
    exact dChain_of (x := .int 2) (y := .int k) (z := .int 6) rfl rfl (cmp_true (decide_eq_true (by omega))) rfl (cmp_true (decide_eq_true (by omega)))
  have hwl : opLen [waysD ws] S = some (.int k, S) := by
    have := len_seq (S := S) (x := waysD ws) rfl
    rw [List.length_map, N.lk.ways.1] at this
    exact this
  have hr := rng1_ok (fs := dCons (dVar 4) dNil) (k := k) (G := G A B C K (some .non) none) (S := S) rfl (by omega)
  rw [rng_map] at hr
  obtain ⟨_, e1, d6, rfl⟩ := for_pass (S := S) (src := fixS ((List.range k).map fun i => D.int (i : Nat))) (g := dgName 6) (b := dSeq (dIte (dNot (dTst (dCallF 3 (dCons (dBin opIx (dVar 2) (dVar 6)) (dCons (dVar 6) (dCons (dVar 4) dNil))) fn_isorder)))
    (dSeq (dRet (dTup (dCons (dCon (.str ("order" : Str))) (dCons (dVar 6) dNil))))
    dSkip) dSkip)
    dSkip) (l := List.range k) (e := fun i => D.int (i : Nat)) fix_src (fun G' => ∃ d6, G' = G A B C K (some .non) d6)
    (fun i hi G' hR => by
      obtain ⟨d6, rfl⟩ := hR
      have hi := List.mem_range.mp hi
      obtain ⟨w, hw⟩ := N.lk.way hi
      refine ⟨G A B C K (some .non) (some (.int i)), G A B C K (some .non) (some (.int i)), rfl, ?_, _, rfl⟩
      exact (dSeq_ite_f (dNot_of (dTst_of (dCallF_of (ds := [.tup (intL w), .int i, .int k]) (S1 := S) (dCons_of (dBin_of (x := waysD ws) (S1 := S) rfl rfl (ix_ways hw)) (dCons_of rfl (dOne_of rfl))) rfl (isorder_ok hk (N.lk.ways.2 i w hw))))) rfl).trans rfl) (G A B C K (some .non) none) ⟨none, rfl⟩
  rw [List.length_range] at e1
  refine dFn_rt (G' := G A B C K (some .non) d6) ?_
  refine (dSeq_ite_f (S1 := S) (dNot_of (dTst_of (dCallF_of (ds := [lockD k M ws []]) (S1 := S) rfl rfl isform_ok))) rfl).trans ?_
  refine (dSeq_nx (dAsgG_of (G1 := G A B C none none none) (d := lockD k M ws []) (S1 := S) (S2 := S) rfl rfl)).trans ?_
  refine (dSeq_nx (dAsg_of (dCall_of (dOne_of (d := gridD k M) (S1 := S) rfl) len_grid))).trans ?_
  refine (dSeq_ite_f c4 rfl).trans ?_
  refine (dSeq_nx (dAsg_of (dCallF_of (ds := [gridD k M]) (S1 := S) rfl rfl (tableerror_ok N)))).trans ?_
  refine (dSeq_ite_f (S1 := S) (dCmpT_of (b := false) rfl rfl rfl) rfl).trans ?_
  refine (dSeq_ite_f (S1 := S) (dCmpT_of (b := false) (dCall_of (dOne_of (d := waysD ws) (S1 := S) rfl) hwl) rfl (by rw [ne_int, decide_eq_true rfl]; rfl)) rfl).trans ?_
  refine (dSeq_nx ((dFor_of hr).trans e1)).trans ?_
  refine (dSeq_ite_f (S1 := S) (dNot_of (dTst_of (dCallF_of (ds := [.tup [], .int k]) (S1 := S) rfl rfl isearly_nil))) rfl).trans ?_
  exact dRetS_of rfl
end
end Vw
set_option maxRecDepth 100000
set_option maxHeartbeats 4000000
namespace Vw
open PySem PySem.Spec L2
def riseW (k : Nat) : List (List Int) := (List.range k).map fun i => others k i
section
variable {k : Nat} {M : Nat → Nat → Str} {ws : List (List Int)} {es : List Int} {S : Sto}
theorem rising_ok (hk : k ≤ 10) : fn_risingorders [.int k] S = some (waysD (riseW k), S) := by
  let G : Gam := [some (.int k)]
  have hw := rng1_ok (fs := dCons (dVar 0) dNil) (k := k) (G := G) (S := S) rfl (by omega)
  rw [rng_map] at hw
  obtain ⟨G', e1, _⟩ := gl_pure (S := S) (g := dgName 0) (t := dYes) (em := emElt (dCall opTuple (dCons (dCallF 2 (dCons (dVar 0) (dCons (dVar 1) dNil)) fn_othersof) dNil))) (l := List.range k) (e := fun i => D.int (i : Nat)) (m := 1) fix_src (fun G => ∃ d0, G = [d0, some (.int k)]) (fun _ => true) (fun i => [D.tup (intL (others k i))])
    (fun i hi G acc hR hacc => by
      obtain ⟨d0, rfl⟩ := hR
      have hol := others_len k i
      exact ⟨[some (.int i), some (.int k)], rfl, rfl, (fun h => by cases h), fun _ => ⟨[some (.int i), some (.int k)], emElt_of hacc (dCall_of (dOne_of (dCallF_of (ds := [.int i, .int k]) (S1 := S) rfl rfl (othersof_ok hk))) (tuple_of rfl (by rw [intL_len]; omega))), _, rfl⟩⟩)
    (fun _ _ => Nat.le_refl 1) [none, some (.int k)] [] ⟨none, rfl⟩ (by rw [List.length_range]; simp; omega)
  have e3 : ∀ l : List Nat, (l.flatMap fun i => [D.tup (intL (others k i))]) = (l.map fun i => others k i).map fun w => D.tup (intL w) := fun l => by
    induction l with
    | nil => rfl
    | cons a l ih => rw [List.flatMap_cons, ih]; rfl
  rw [filter_yes, List.nil_append, e3, List.length_range] at e1
  refine dFn_rt (G' := G) (dRetS_of (dGen_of hw e1 ?_))
  unfold riseW
  rw [List.length_map, List.length_map, List.length_range]; omega
end
end Vw
set_option maxRecDepth 100000
set_option maxHeartbeats 4000000
namespace Vw
open PySem PySem.Spec L2
def d_fdpick : DS :=
    (dSeq (dRet (dBin opIx (dVar 1) (dCallF 2 (dCons (dVar 0) (dCons (dCall opLen (dCons (dVar 1) dNil)) dNil)) fn_fddraw)))
    dSkip)
def fn_fdpick : DF := dDef 2 d_fdpick
theorem fd_pick {S : Sto} {N : Nat} {ds : List D} {x : D} (b : Fek N S) (hx : ∀ S', KeepN N S S' → seqD S' x = some ds) (h0 : 0 < ds.length) (h1 : ds.length < 1000000) :
    ∃ (r : Nat) (h : r < ds.length) (S' : Sto), fn_fdpick [.loc 1, x] S = some (ds[r], S') ∧ Fek N S' ∧ KeepN N S S' := by
  obtain ⟨r, S1, e1, hr, b1, k1⟩ := fd_draw (size := ((ds.length : Nat) : Int)) b (by omega) (by omega)
  have hlt : r < ds.length := by omega
  let G : Gam := [some (.loc 1), some x]
  have q1 : dCallF 2 (dCons (dVar 0) (dCons (dCall opLen (dCons (dVar 1) dNil)) dNil)) fn_fddraw G S = some (.int (r : Nat), S1) := dCallF_of (ds := [.loc 1, .int ((ds.length : Nat) : Int)]) (S1 := S) (dCons_of rfl (dOne_of (dCall_of (dOne_of (d := x) (S1 := S) rfl) (len_seq (hx S .refl))))) rfl e1
  exact ⟨r, hlt, S1, dFn_rt (G' := G) (dRetS_of (dBin_of (x := x) (S1 := S) rfl q1 (ix_seq' (hx S1 k1) (List.getElem?_eq_getElem hlt)))), b1, k1⟩
theorem Fek.app {N : Nat} {S R : Sto} (b : Fek N S) : Fek N (S ++ R) := by
  obtain ⟨n, far, mx, tn, q1, qn, r⟩ := b.ex
  exact ⟨n, far, mx, tn, by rw [List.getElem?_append_left (List.getElem?_eq_some_iff.mp q1).1]; exact q1, by rw [List.getElem?_append_left (List.getElem?_eq_some_iff.mp qn).1]; exact qn, r⟩
theorem Fek.put {N a : Nat} {S : Sto} {c : Cell} (b : Fek N S) (h : N ≤ a) : Fek N (S.set a c) := by
  obtain ⟨n, far, mx, tn, q1, qn, h1, h2, h3, r⟩ := b.ex
  exact ⟨n, far, mx, tn, by rw [List.getElem?_set_ne (by omega)]; exact q1, by rw [List.getElem?_set_ne (by omega)]; exact qn, h1, h2, h3, r⟩
abbrev fmB : DS := (dSeq (dExpr (dMeth "list" opAppend (dVar 3) (dCons (dMeth "list" opPopAt (dVar 2) (dCons (dCallF 2 (dCons (dVar 0) (dCons (dCall opLen (dCons (dVar 2) dNil)) dNil)) fn_fddraw) dNil)) dNil)))
    dSkip)
def d_fdmixed : DS :=
    (dSeq (dPar 2 3 (dCons (dCall (opList true) (dCons (dVar 1) dNil)) (dCons (dLst true dNil) dNil)))
    (dSeq (dFor (dRng1 (dCons (dCall opLen (dCons (dVar 2) dNil)) dNil)) (dgName 4)
    fmB)
    (dSeq (dRet (dVar 3))
    dSkip)))
def fn_fdmixed : DF := dDef 5 d_fdmixed
theorem fd_mixed {N : Nat} {S : Sto} {xs : List Int} {x : D} (b : Fek N S) (hN : N ≤ S.length) (hx : seqD S x = some (intL xs)) (hl : xs.length < 900) :
    ∃ (ys : List Int) (S' : Sto), fn_fdmixed [.loc 1, x] S = some (.loc (S.length + 1), S') ∧ S'[S.length + 1]? = some (Cell.lst (intL ys)) ∧ ys.Perm xs ∧ Fek N S' ∧ S'.length = S.length + 2 ∧ KeepG N S S' := by
  let G (d4 : Option D) : Gam := [some (.loc 1), some x, some (.loc S.length), some (.loc (S.length + 1)), d4]
  let S0 : Sto := S ++ [Cell.lst (intL xs)] ++ [Cell.lst []]
  have hL := list_c hx (by rw [show (intL xs).length = xs.length from List.length_map _]; omega)
  have e7 : dLst true dNil [some (.loc 1), some x, none, none, none] (S ++ [Cell.lst (intL xs)]) = some (.loc (S.length + 1), S0) := by
    show okLst true [] (S ++ [Cell.lst (intL xs)]) = _
    rw [okc (by simp)]; simp [S0]
  have g0 : S0[S.length]? = some (Cell.lst (intL xs)) := by simp [S0]
  have hlen0 : dCall opLen (dCons (dVar 2) dNil) (G none) S0 = some (.int ((xs.length : Nat) : Int), S0) := by
    have := len_seq (seqD_loc g0)
    rw [intL_len] at this
    exact dCall_of (dOne_of (d := .loc S.length) (S1 := S0) rfl) this
  have hr := rng1_ok (fs := dCons (dCall opLen (dCons (dVar 2) dNil)) dNil) (k := xs.length) (G := G none) (S := S0) (dOne_of hlen0) (by omega)
  obtain ⟨G3, S3, e3, d4, rem, out, rfl, q1, q2, hp, hb, hlen, hk, hrl⟩ := for_inv (src := fixS (rngD 0 ((xs.length : Nat) : Int))) (g := dgName 4) (b := fmB) (ds := rngD 0 ((xs.length : Nat) : Int))
    (fun i G' S' => ∃ (d4 : Option D) (rem out : List Int), G' = G d4 ∧ S'[S.length]? = some (Cell.lst (intL rem)) ∧ S'[S.length + 1]? = some (Cell.lst (intL out)) ∧ (out ++ rem).Perm xs ∧ Fek N S' ∧ S'.length = S.length + 2 ∧ KeepG N S S' ∧ rem.length = xs.length - i) (fun i G' S' h => rfl)
    (fun i G' S' d hd hI => by
      obtain ⟨d4, rem, out, rfl, e1, e2, hp, hb, hlen, hk, hrl⟩ := hI
      have hi : i < xs.length := by have := (List.getElem?_eq_some_iff.mp hd).1; rwa [rngD_len] at this
      rw [rngD_get hi] at hd
      cases hd
      have hpl := hp.length_eq
      rw [List.length_append] at hpl
      have hpos : 0 < rem.length := by omega
      obtain ⟨r, S1, e3, hr, hb1, hk1⟩ := fd_draw (size := ((rem.length : Nat) : Int)) hb (by omega) (by omega)
      have hr' : r < rem.length := by omega
      have hl1 := hk1.len
      have e1' : S1[S.length]? = some (Cell.lst (intL rem)) := (hk1.at_ _ hN).trans e1
      have e2' : S1[S.length + 1]? = some (Cell.lst (intL out)) := (hk1.at_ _ (by omega)).trans e2
      have hlen0 := len_seq (seqD_loc e1)
      rw [show (intL rem).length = rem.length from List.length_map _] at hlen0
      have hpop := pop_loc e1' hr' (by omega)
      let S2 : Sto := S1.set S.length (Cell.lst (intL (rem.eraseIdx r)))
      have e4 : S2[S.length + 1]? = some (Cell.lst (intL out)) := by
        show (S1.set S.length _)[S.length + 1]? = _
        rw [List.getElem?_set_ne (by omega)]; exact e2'
      have happ := app_loc (d := .int rem[r]) e4 (by rw [show (intL out).length = out.length from List.length_map _]; omega)
      refine ⟨G (some (.int (i : Nat))), S', G (some (.int (i : Nat))), S2.set (S.length + 1) (Cell.lst (intL out ++ [.int rem[r]])), rfl, ?_, some (.int (i : Nat)), rem.eraseIdx r, out ++ [rem[r]], rfl, ?_, ?_, ?_, ?_, ?_, ?_, ?_⟩
      · exact (dSeq_nx (dExpr_of (dMeth_of (x := .loc (S.length + 1)) (S1 := S') rfl (tyD_loc e2) (dOne_of (dMeth_of (x := .loc S.length) (S1 := S') rfl (tyD_loc e1) (dOne_of (dCallF_of (ds := [.loc 1, .int ((rem.length : Nat) : Int)]) (S1 := S') (dCons_of rfl (dOne_of (dCall_of (dOne_of (d := .loc S.length) (S1 := S') rfl) hlen0))) rfl e3)) hpop)) happ))).trans rfl
      · rw [List.getElem?_set_ne (by omega)]
        show (S1.set S.length _)[S.length]? = _
        rw [List.getElem?_set_self (by omega)]
      · rw [List.getElem?_set_self (by simp [S2]; omega)]
        simp [intL]
      · refine List.Perm.trans ?_ hp
        rw [List.append_assoc]
        exact (perm_erase hr').append_left out
      · exact Fek.put (Fek.put hb1 hN) (by omega)
      · simp [S2]; omega
      · exact KeepG.put (KeepG.put (hk.trans hk1.grow) (Nat.le_refl _)) (by omega)
      · rw [List.length_eraseIdx_of_lt hr']; omega) xs.length 0 (G none) S0 (by rw [rngD_len]; omega) ⟨none, xs, [], rfl, g0, by simp [S0, intL], by simp, b.app.app, by simp [S0], KeepG.app.trans KeepG.app, rfl⟩
  rw [rngD_len, Nat.sub_self] at hrl
  have hr0 : rem = [] := List.length_eq_zero_iff.mp hrl
  subst hr0
  rw [List.append_nil] at hp
  refine ⟨out, S3, ?_, q2, hp, hb, hlen, hk⟩
  refine dFn_rt (G' := G d4) ?_
  refine (dSeq_nx (dPar_of (x := .loc S.length) (y := .loc (S.length + 1)) (S1 := S0) (dCons_of (dCall_of (dOne_of rfl) hL) (dOne_of e7)))).trans ?_
  exact (dSeq_nx ((dFor_of hr).trans e3)).trans (dRetS_of rfl)
end Vw
set_option maxRecDepth 100000
set_option maxHeartbeats 4000000
namespace Vw
open PySem PySem.Spec L2
def KT : List Key := [.inr ("far" : Str), .inr ("mixed" : Str), .inr ("turn" : Str)]
/-- the cells below N are the deck's -/
structure Tek (N : Nat) (S : Sto) : Prop where
  ex : ∃ (n : Nat) (far : List Int) (mx tn : Int), S[1]? = some (Cell.dic KT [.loc n, .int mx, .int tn]) ∧ S[n]? = some (Cell.lst (far.map D.int)) ∧ n ≠ 1 ∧ n < N ∧ 1 < N ∧ (∀ x ∈ far, 0 ≤ x) ∧ far.length ≤ 1000
end Vw
set_option maxRecDepth 100000
set_option maxHeartbeats 4000000
namespace Vw
open PySem PySem.Spec L2
theorem Tek.app {N : Nat} {S R : Sto} (b : Tek N S) : Tek N (S ++ R) := by
  obtain ⟨n, far, mx, tn, q1, qn, r⟩ := b.ex
  exact ⟨n, far, mx, tn, by rw [List.getElem?_append_left (List.getElem?_eq_some_iff.mp q1).1]; exact q1, by rw [List.getElem?_append_left (List.getElem?_eq_some_iff.mp qn).1]; exact qn, r⟩
theorem Tek.put {N a : Nat} {S : Sto} {c : Cell} (b : Tek N S) (h : N ≤ a) : Tek N (S.set a c) := by
  obtain ⟨n, far, mx, tn, q1, qn, h1, h2, h3, r⟩ := b.ex
  exact ⟨n, far, mx, tn, by rw [List.getElem?_set_ne (by omega)]; exact q1, by rw [List.getElem?_set_ne (by omega)]; exact qn, h1, h2, h3, r⟩
end Vw
set_option maxRecDepth 100000
set_option maxHeartbeats 4000000
namespace Vw
open PySem PySem.Spec L2
structure DoneQ (ps : List (Str × Str)) (k i j : Nat) (M : Nat → Nat → Str) : Prop where
  dia : ∀ a, a < k → M a a = wDash
  pair : ∀ a b, a < b → b < k → (a < i ∨ (a = i ∧ b < j)) → (M a b, M b a) ∈ ps
theorem DoneQ.step {ps : List (Str × Str)} {k i j : Nat} {M : Nat → Nat → Str} {x y : Str} (d : DoneQ ps k i j M) (hij : i < j) (hj : j < k) (p : (x, y) ∈ ps) : DoneQ ps k i (j + 1) (upd2 (upd2 M i j x) j i y) := by
  have e : ∀ a b, upd2 (upd2 M i j x) j i y a b = if a = j ∧ b = i then y else if a = i ∧ b = j then x else M a b := fun a b => by
    unfold upd2 upd1
    by_cases h1 : a = j
    · subst h1
      by_cases h2 : b = i
      · subst h2; simp
      · have : ¬ a = i := by omega
        simp [h2, this]
    · by_cases h2 : a = i
      · subst h2
        by_cases h3 : b = j <;> simp [h1, h3]
      · simp [h1, h2]
  refine ⟨fun a ha => ?_, fun a b hab hb h => ?_⟩
  · rw [e, if_neg (by omega), if_neg (by omega)]; exact d.dia a ha
  · by_cases h1 : a = i ∧ b = j
    · obtain ⟨rfl, rfl⟩ := h1
      rw [e, e, if_neg (by omega), if_pos ⟨rfl, rfl⟩, if_pos ⟨rfl, rfl⟩]
      exact p
    · rw [e, e, if_neg (by omega), if_neg h1, if_neg (by omega), if_neg (by omega)]
      exact d.pair a b hab hb (by omega)
theorem DoneQ.next {ps : List (Str × Str)} {k i : Nat} {M : Nat → Nat → Str} (d : DoneQ ps k i k M) : DoneQ ps k (i + 1) (i + 2) M := ⟨d.dia, fun a b hab hb h => d.pair a b hab hb (by omega)⟩
abbrev pairV (p : Str × Str) : D := .tup [.str p.1, .str p.2]
end Vw
set_option maxRecDepth 100000
set_option maxHeartbeats 4000000
namespace Vw
open PySem PySem.Spec L2
def OkP (ps : List (Str × Str)) : Prop := ∀ p ∈ ps, (p.1 = wEven ↔ p.2 = wEven) ∧ p.1 ∈ six ∧ p.2 ∈ six
theorem OkP.app {ps qs : List (Str × Str)} (h : OkP ps) (h2 : OkP qs) : OkP (ps ++ qs) := fun p hp => (List.mem_append.mp hp).elim (h p) (h2 p)
theorem OkP.rep {p : Str × Str} {n : Nat} (h : OkP [p]) : OkP (List.replicate n p) := fun q hq => by rw [List.eq_of_mem_replicate hq]; exact h p (.head _)
instance {ps : List (Str × Str)} : Decidable (OkP ps) := inferInstanceAs (Decidable (∀ p ∈ ps, (p.1 = wEven ↔ p.2 = wEven) ∧ p.1 ∈ six ∧ p.2 ∈ six))
end Vw
set_option maxRecDepth 100000
set_option maxHeartbeats 4000000
namespace Vw
open PySem PySem.Spec PyProof.Rows L2 RZ
open PySem.Sem (wp)
end Vw
set_option maxRecDepth 100000
set_option maxHeartbeats 4000000
namespace Vw
open PySem PySem.Spec PyProof.Rows L2
end Vw
set_option maxRecDepth 100000
set_option maxHeartbeats 4000000
namespace Vw
open PySem PySem.Spec PyProof.Rows L2
end Vw
set_option maxRecDepth 100000
set_option maxHeartbeats 4000000
namespace Vw
open PySem PySem.Spec L2
abbrev wPass : Str := "pass"
abbrev wSlip : Str := "slip"
theorem in_intsL {neg : Bool} {z : Int} {e : List Int} {S : Sto} : opIn neg (.int z) (.lst (intL e)) S = some (.bl (if neg then !(decide (z ∈ e)) else decide (z ∈ e)), S) := by
  have h1 : ∀ e : List Int, (intL e).all flatD = true := fun e => by
    induction e with
    | nil => rfl
    | cons a e ih => exact ih
  have h2 : ∀ e : List Int, ((intL e).any (eqF · (.int z))) = decide (z ∈ e) := fun e => by
    induction e with
    | nil => rfl
    | cons a e ih =>
      show ((a == z) || (intL e).any (eqF · (.int z))) = _
      rw [ih]
      by_cases h : a = z
      · subst h; simp
      · have h' : ¬ z = a := fun x => h x.symm
        simp [h, h']
  unfold opIn inD
  show (((if flatD (.int z) && (intL e).all flatD then some ((intL e).any (eqF · (.int z))) else inP S (.int z) (.lst (intL e)))).map _) = _
  rw [h1, h2]; rfl
section
variable {α β : Type}
theorem lc_loopA {S : Sto} {src : Src} {g : DG} {f : DE} {G : Gam} {l : List α} {e : α → D} (hsrc : ∀ i, src i S = some (l.map e)[i]?) (h : α → D) (acc : List D)
    (step : ∀ x ∈ l, ∃ G1, g (e x) G S = some (G1, S) ∧ f G1 S = some (h x, S)) : dLcLoop src g dYes f G (l.length + 1) 0 S acc = some (acc ++ l.map h, S) := by
  obtain ⟨out, S', e1, rfl, rfl⟩ := lc_inv (src := src) (g := g) (t := dYes) (f := f) (G := G) (ds := l.map e) (fun i S' a => S' = S ∧ a = acc ++ (l.take i).map h) (fun i S' acc hI => by rw [hI.1]; exact hsrc i)
    (fun i S' a d hd hI => by
      obtain ⟨rfl, rfl⟩ := hI
      rw [List.getElem?_map] at hd
      obtain ⟨x, hx, rfl⟩ := Option.map_eq_some_iff.mp hd
      obtain ⟨G1, s1, s3⟩ := step x (List.mem_of_getElem? hx)
      have ht : l.take (i + 1) = l.take i ++ [x] := by rw [List.take_add_one, hx]; rfl
      refine ⟨G1, S', true, S', s1, rfl, fun _ => ⟨h x, S', s3, rfl, ?_⟩, fun hp => by cases hp⟩
      rw [ht, List.map_append, List.append_assoc]; rfl) l.length 0 S acc (by rw [List.length_map]; omega) ⟨rfl, by simp⟩
  rw [List.length_map, List.take_length] at e1
  exact e1
theorem lc2_loop {S : Sto} {src : Src} {g g1 : DG} {w1 : DI} {f : DE} {own1 : List Nat} {G : Gam} {l : List α} {e : α → D} {l1 : α → List β} {e1 : β → D} (h : α → β → D) (hsrc : ∀ i, src i S = some (l.map e)[i]?)
    (step : ∀ x ∈ l, ∃ G1 src1, g (e x) G S = some (G1, S) ∧ w1 G1 S = some (src1, (l1 x).length + 1, S) ∧ (∀ i, src1 i S = some ((l1 x).map e1)[i]?) ∧ ∀ y ∈ l1 x, ∃ G2, g1 (e1 y) (wipeG G1 own1) S = some (G2, S) ∧ f G2 S = some (h x y, S)) :
    ∀ (k i : Nat) (acc : List D), i + k = l.length → dLc2Loop src g dYes w1 g1 dYes f own1 G (k + 1) i S acc = some (acc ++ (l.drop i).flatMap fun x => (l1 x).map (h x), S) := by
  intro k
  induction k with
  | zero =>
    intro i acc hi
    unfold dLc2Loop
    rw [hsrc, List.getElem?_eq_none (by rw [List.length_map]; omega), List.drop_of_length_le (by omega)]
    simp
  | succ k ih =>
    intro i acc hi
    have hil : i < l.length := by omega
    obtain ⟨G1, src1, s1, s2, s3, s4⟩ := step l[i] (List.getElem_mem hil)
    unfold dLc2Loop
    rw [hsrc, List.getElem?_map, List.getElem?_eq_getElem hil]
    show ((g (e l[i]) G S).bind fun p => (dYes p.1 p.2).bind fun b => if b.1 = true
        then (w1 p.1 b.2).bind fun q => (dLcLoop q.1 g1 dYes f (wipeG p.1 own1) q.2.1 0 q.2.2 acc).bind fun r => dLc2Loop src g dYes w1 g1 dYes f own1 G (k + 1) (i + 1) r.2 r.1
        else dLc2Loop src g dYes w1 g1 dYes f own1 G (k + 1) (i + 1) b.2 acc) = _
    rw [s1]
    show (w1 G1 S).bind (fun q => (dLcLoop q.1 g1 dYes f (wipeG G1 own1) q.2.1 0 q.2.2 acc).bind fun r => dLc2Loop src g dYes w1 g1 dYes f own1 G (k + 1) (i + 1) r.2 r.1) = _
    rw [s2]
    show (dLcLoop src1 g1 dYes f (wipeG G1 own1) ((l1 l[i]).length + 1) 0 S acc).bind (fun r => dLc2Loop src g dYes w1 g1 dYes f own1 G (k + 1) (i + 1) r.2 r.1) = _
    rw [lc_loopA s3 (h l[i]) acc s4]
    show dLc2Loop src g dYes w1 g1 dYes f own1 G (k + 1) (i + 1) S (acc ++ (l1 l[i]).map (h l[i])) = _
    rw [ih (i + 1) _ (by omega), List.drop_eq_getElem_cons hil, List.flatMap_cons, List.append_assoc]
theorem lc2_pure {c : Bool} {own own1 : List Nat} {w : DI} {S : Sto} {src : Src} {g g1 : DG} {w1 : DI} {f : DE} {G : Gam} {l : List α} {e : α → D} {l1 : α → List β} {e1 : β → D} (h : α → β → D) (hw : w G S = some (src, l.length + 1, S)) (hsrc : ∀ i, src i S = some (l.map e)[i]?)
    (step : ∀ x ∈ l, ∃ G1 src1, g (e x) (wipeG G own) S = some (G1, S) ∧ w1 G1 S = some (src1, (l1 x).length + 1, S) ∧ (∀ i, src1 i S = some ((l1 x).map e1)[i]?) ∧ ∀ y ∈ l1 x, ∃ G2, g1 (e1 y) (wipeG G1 own1) S = some (G2, S) ∧ f G2 S = some (h x y, S)) :
    dLc2 c own own1 w g dYes w1 g1 dYes f G S = okLst c (l.flatMap fun x => (l1 x).map (h x)) S := by
  unfold dLc2
  rw [hw]
  show (dLc2Loop src g dYes w1 g1 dYes f own1 (wipeG G own) (l.length + 1) 0 S []).bind (fun p => okLst c p.1 p.2) = _
  rw [lc2_loop h hsrc step l.length 0 [] (by omega)]
  rfl
end
section
variable {k : Nat} {M : Nat → Nat → Str} {ws : List (List Int)} {es : List Int} {S : Sto}
theorem ways_get {i : Nat} (L : Lk k M ws es) (hi : i < k) : ws[i]? = some (ws.getD i []) := by
  have : i < ws.length := by rw [L.ways.1]; exact hi
  rw [List.getD_eq_getElem?_getD, List.getElem?_eq_getElem this]; rfl
/-- no word pass or slip, no even one of an early hand -/
def SafeP (k : Nat) (M : Nat → Nat → Str) (es : List Int) : Prop := ∀ i j, i < k → j < k → j ≠ i → M i j ≠ wPass ∧ M i j ≠ wSlip ∧ ¬(M i j = wEven ∧ (i : Int) ∈ es)
end
end Vw
set_option maxRecDepth 100000
set_option maxHeartbeats 4000000
namespace Vw
open PySem PySem.Spec L2
end Vw
set_option maxRecDepth 100000
set_option maxHeartbeats 4000000
namespace Vw
open PySem PySem.Spec L2
theorem ix_lastI {w : List Int} {z : Int} {S : Sto} (h : w.getLast? = some z) : opIx (.tup (intL w)) (.int (-1)) S = some (.int z, S) := by
  have hw : w ≠ [] := fun e => by rw [e] at h; cases h
  have hl : 0 < w.length := List.length_pos_iff.mpr hw
  unfold opIx
  show (atI (intL w) (-1)).map _ = _
  unfold atI
  rw [intL_len w]
  have e : ixN w.length (-1) = some (w.length - 1) := by
    unfold ixN
    rw [if_neg (by decide), if_pos (by omega)]
    congr 1
    omega
  rw [e]
  show ((intL w)[w.length - 1]?).map _ = _
  rw [show (intL w)[w.length - 1]? = (w[w.length - 1]?).map D.int from List.getElem?_map .., ← List.getLast?_eq_getElem?, h]
  rfl
section
variable {k : Nat} {M : Nat → Nat → Str} {ws : List (List Int)} {es : List Int} {S : Sto}
theorem others_nodup {k i : Nat} : (others k i).Nodup := by
  unfold others
  exact List.Pairwise.map (fun j : Nat => (j : Int)) (fun (a b : Nat) (h : a ≠ b) (q : (a : Int) = b) => h (by omega)) (List.Pairwise.filter _ List.nodup_range)
end
end Vw
set_option maxRecDepth 100000
set_option maxHeartbeats 4000000
namespace Vw
open PySem PySem.Spec L2
def prs (i j : Nat) : List (Nat × Nat) := [(i, j), (j, i)]
end Vw
set_option maxRecDepth 100000
set_option maxHeartbeats 4000000
namespace Vw
open PySem PySem.Spec L2
theorem natL_get {rs : List Nat} {j : Nat} : (intL (natL rs))[j]? = (rs[j]?).map fun (j : Nat) => D.int (j : Nat) := by
  show ((rs.map fun j : Nat => (j : Int)).map D.int)[j]? = _
  rw [List.getElem?_map, List.getElem?_map]
  cases rs[j]? <;> rfl
theorem natL_len (l : List Nat) : (natL l).length = l.length := List.length_map _
section
variable {k : Nat} {M : Nat → Nat → Str} {ws : List (List Int)} {es : List Int} {S : Sto} {rs : List Nat}
theorem cl_ix (hp : rs.Perm (List.range k)) {a : Nat} (ha : a < k) : rs.idxOf a < k ∧ rs.getD (rs.idxOf a) 0 = a := by
  have hm : a ∈ rs := hp.mem_iff.mpr (List.mem_range.mpr ha)
  have hl := List.idxOf_lt_length_of_mem hm
  have hlen : rs.length = k := by rw [hp.length_eq, List.length_range]
  refine ⟨by omega, ?_⟩
  rw [List.getD_eq_getElem?_getD, List.getElem?_eq_getElem hl]
  exact List.getElem_idxOf hl
theorem cl_get (hp : rs.Perm (List.range k)) {j : Nat} (hj : j < k) : rs.getD j 0 < k ∧ rs.idxOf (rs.getD j 0) = j := by
  have hlen : rs.length = k := by rw [hp.length_eq, List.length_range]
  have nd : rs.Nodup := hp.nodup_iff.mpr List.nodup_range
  have e : rs.getD j 0 = rs[j]'(by omega) := by rw [List.getD_eq_getElem?_getD, List.getElem?_eq_getElem (by omega)]; rfl
  have hm : rs.getD j 0 ∈ rs := by rw [e]; exact List.getElem_mem _
  refine ⟨List.mem_range.mp (hp.mem_iff.mp hm), ?_⟩
  have hx := List.idxOf_lt_length_of_mem hm
  have g := List.getElem_idxOf hx
  have g2 : rs[rs.idxOf (rs.getD j 0)]'hx = rs[j]'(by omega) := g.trans e
  exact (List.getElem_inj nd).mp g2
end
end Vw
set_option maxRecDepth 100000
set_option maxHeartbeats 4000000
namespace Vw
open PySem PySem.Spec L2
/-- rows of their own somewhere in the store -/
structure GridW (L k : Nat) (M : Nat → Nat → Str) (S : Sto) : Prop where
  row : ∀ r, r < k → S[L + r]? = some (Cell.lst (rowD k (M r)))
  top : S[L + k]? = some (Cell.lst ((List.range k).map fun r => D.loc (L + r)))
theorem GridW.keep {L k N : Nat} {M : Nat → Nat → Str} {S S' : Sto} (g : GridW L k M S) (h : KeepG N S S') (hN : N ≤ L) : GridW L k M S' :=
  ⟨fun r hr => (h.at_ _ (by omega) (List.getElem?_eq_some_iff.mp (g.row r hr)).1).trans (g.row r hr), (h.at_ _ (by omega) (List.getElem?_eq_some_iff.mp g.top).1).trans g.top⟩
theorem GridW.ix {L k i : Nat} {M : Nat → Nat → Str} {S : Sto} (g : GridW L k M S) (hi : i < k) : opIx (.loc (L + k)) (.int i) S = some (.loc (L + i), S) :=
  ix_seq' (seqD_loc g.top) (by rw [List.getElem?_map, List.getElem?_range hi]; rfl)
theorem GridW.put {L k i j : Nat} {M : Nat → Nat → Str} {S : Sto} {w : Str} (g : GridW L k M S) (hi : i < k) (hj : j < k) : opPut (.loc (L + i)) (.int j) (.str w) S = some (S.set (L + i) (Cell.lst (rowD k (upd1 (M i) j w)))) ∧ GridW L k (upd2 M i j w) (S.set (L + i) (Cell.lst (rowD k (upd1 (M i) j w)))) := by
  have hlt := (List.getElem?_eq_some_iff.mp (g.row i hi)).1
  refine ⟨?_, fun r hr => ?_, ?_⟩
  · show (match S[L + i]? with | some (Cell.lst ds) => (match ixN ds.length (j : Int) with | some j => some (S.set (L + i) (Cell.lst (ds.set j (.str w)))) | none => none) | some (Cell.dic ks ds) => _ | none => none) = _
    rw [g.row i hi]
    simp only
    rw [rowD_len, show ixN k (j : Int) = some j by unfold ixN; rw [if_pos (by omega), if_pos (by omega)]; simp]
    simp only [rowD_set]
  · by_cases h : r = i
    · subst h
      rw [List.getElem?_set_self hlt]
      simp [upd2]
    · rw [List.getElem?_set_ne (by omega), g.row r hr]
      simp [upd2, h]
  · rw [List.getElem?_set_ne (by omega)]
    exact g.top
structure MatOk (k : Nat) (M : Nat → Nat → Str) : Prop where
  dia : ∀ a, a < k → M a a = wDash
  sym : SymE k M
  six : ∀ a b, a < k → b < k → M a b ∈ six
theorem MatOk.set {k i j : Nat} {M : Nat → Nat → Str} {x y : Str} (m : MatOk k M) (hij : i ≠ j) (o : OkP [(x, y)]) : MatOk k (upd2 (upd2 M i j x) j i y) := by
  obtain ⟨o1, o2, o3⟩ := o (x, y) (.head _)
  have e : ∀ a b, upd2 (upd2 M i j x) j i y a b = if a = j ∧ b = i then y else if a = i ∧ b = j then x else M a b := fun a b => by
    unfold upd2 upd1
    by_cases h1 : a = j
    · subst h1
      by_cases h2 : b = i
      · subst h2; simp
      · have : ¬ a = i := by omega
        simp [h2, this]
    · by_cases h2 : a = i
      · subst h2
        by_cases h3 : b = j <;> simp [h1, h3]
      · simp [h1, h2]
  refine ⟨fun a ha => ?_, fun a b ha hb h => ?_, fun a b ha hb => ?_⟩
  · rw [e, if_neg (by omega), if_neg (by omega)]; exact m.dia a ha
  · rw [e] at h ⊢
    by_cases h1 : a = j ∧ b = i
    · rw [if_pos h1] at h
      rw [if_neg (by omega), if_pos ⟨h1.2, h1.1⟩]
      exact o1.mpr h
    · rw [if_neg h1] at h
      by_cases h2 : a = i ∧ b = j
      · rw [if_pos h2] at h
        rw [if_pos ⟨h2.2, h2.1⟩]
        exact o1.mp h
      · rw [if_neg h2] at h
        rw [if_neg (by omega), if_neg (by omega)]
        exact m.sym a b ha hb h
  · rw [e]
    split
    · exact o3
    · split
      · exact o2
      · exact m.six a b ha hb
section
variable {k N L n : Nat} {kd : Str} {S0 : Sto}
theorem dAnd_no {a b : DT} {G : Gam} {S S1 : Sto} (h : a G S = some (false, S1)) : dAnd a b G S = some (false, S1) := by
  unfold dAnd; rw [h]; rfl
theorem dAnd_go {a b : DT} {G : Gam} {S S1 : Sto} (h : a G S = some (true, S1)) : dAnd a b G S = b G S1 := by
  unfold dAnd; rw [h]; rfl
end
end Vw
set_option maxRecDepth 100000
set_option maxHeartbeats 4000000
namespace Vw
open PySem PySem.Spec L2
def ps5 : List (Str × Str) := [("even", "even"), ("stand", "stand"), ("stand", "bow"), ("bow", "stand"), ("bow", "bow")]
/-- a plain table -/
structure PlainM (k : Nat) (M : Nat → Nat → Str) : Prop where
  dia : ∀ a, a < k → M a a = wDash
  pair : ∀ a b, a < k → b < k → a ≠ b → (M a b, M b a) ∈ ps5
theorem ps5_swap : ∀ p ∈ ps5, (p.2, p.1) ∈ ps5 := by decide
theorem upd2_at {M : Nat → Nat → Str} {i j : Nat} {x y : Str} (h : i ≠ j) (a b : Nat) : upd2 (upd2 M i j x) j i y a b = if a = j ∧ b = i then y else if a = i ∧ b = j then x else M a b := by
  unfold upd2 upd1
  by_cases h1 : a = j
  · subst h1
    by_cases h2 : b = i
    · subst h2; simp
    · have : ¬ a = i := fun q => h q.symm
      simp [h2, this]
  · by_cases h2 : a = i
    · subst h2
      by_cases h3 : b = j <;> simp [h1, h3]
    · simp [h1, h2]
theorem PlainM.put {k i j : Nat} {M : Nat → Nat → Str} {x y : Str} (p : PlainM k M) (h : i ≠ j) (q : (x, y) ∈ ps5) : PlainM k (upd2 (upd2 M i j x) j i y) := by
  refine ⟨fun a ha => ?_, fun a b ha hb hne => ?_⟩
  · rw [upd2_at h, if_neg (fun z => h (z.2.symm.trans z.1)), if_neg (fun z => h (z.1.symm.trans z.2))]; exact p.dia a ha
  · rw [upd2_at h, upd2_at h]
    by_cases h1 : a = j ∧ b = i
    · obtain ⟨rfl, rfl⟩ := h1
      rw [if_pos ⟨rfl, rfl⟩, if_neg (fun z => hne z.2), if_pos ⟨rfl, rfl⟩]
      exact ps5_swap _ q
    · rw [if_neg h1]
      by_cases h2 : a = i ∧ b = j
      · obtain ⟨rfl, rfl⟩ := h2
        rw [if_pos ⟨rfl, rfl⟩, if_pos ⟨rfl, rfl⟩]; exact q
      · rw [if_neg h2, if_neg (fun z => h2 ⟨z.2, z.1⟩), if_neg (fun z => h1 ⟨z.2, z.1⟩)]
        exact p.pair a b ha hb hne
theorem PlainM.of {k : Nat} {M : Nat → Nat → Str} (d : DoneQ ps5 k k k M) : PlainM k M := ⟨d.dia, fun a b ha hb hne => by
  rcases Nat.lt_or_ge a b with h | h
  · exact d.pair a b h hb (.inl ha)
  · exact ps5_swap _ (d.pair b a (by omega) ha (.inl hb))⟩
section
variable {N k L u v : Nat} {M : Nat → Nat → Str} {S : Sto} {G : Gam}
theorem fg_new (b : Fek N S) (hN : N ≤ S.length) (hk : k ≤ 10) (hw : dRng1 (dCons (dVar u) dNil) G S = some (fixS (rngD 0 (k : Int)), k + 1, S)) (hu : ∀ d S', dVar u ((wipeG G [v]).set v d) S' = some (.int k, S')) :
    ∃ S', dLc true [v] (dRng1 (dCons (dVar u) dNil)) (dgName v) dYes (dBin (opMulA true) (dLst false (dCons (dCon (.str ("-" : Str))) dNil)) (dVar u)) G S = some (.loc (S.length + k), S') ∧ GridW S.length k (fun _ _ => wDash) S' ∧ S'.length = S.length + k + 1 ∧ Fek N S' ∧ KeepG N S S' := by
  let L := S.length
  obtain ⟨out, S1, e1, rfl, hrow, hlen, hb, hkp⟩ := lc_inv (src := fixS (rngD 0 (k : Int))) (g := dgName v) (t := dYes) (f := dBin (opMulA true) (dLst false (dCons (dCon (.str ("-" : Str))) dNil)) (dVar u)) (G := wipeG G [v]) (ds := rngD 0 (k : Int))
    (fun i S' acc => acc = (List.range i).map (fun r => D.loc (L + r)) ∧ (∀ r, r < i → S'[L + r]? = some (Cell.lst (rowD k fun _ => wDash))) ∧ S'.length = L + i ∧ Fek N S' ∧ KeepG N S S') (fun j S' acc h => rfl)
    (fun i S' acc d hd h => by
      obtain ⟨rfl, hrow, hlen, hb, hkp⟩ := h
      refine ⟨_, S', true, S', rfl, rfl, fun _ => ⟨.loc (L + i), S' ++ [Cell.lst (rowD k fun _ => wDash)], ?_, ?_, fun r hr => ?_, ?_, hb.app, hkp.trans KeepG.app⟩, fun h => by cases h⟩
      · have hm := mul_row (S := S') (k := k) (by omega)
        rw [hlen] at hm
        exact dBin_of (x := .lst [.str wDash]) (y := .int k) (S1 := S') (S2 := S') (dLst_of rfl (by show 1 ≤ 1000000; decide)) (hu _ S') hm
      · rw [List.range_succ, List.map_append]; rfl
      · by_cases h : r < i
        · rw [List.getElem?_append_left (by omega)]; exact hrow r h
        · have : r = i := by omega
          subst this
          rw [List.getElem?_append_right (by omega), hlen]
          simp
      · rw [List.length_append, hlen]; rfl) k 0 S [] (by rw [rngD_len]; omega) ⟨rfl, fun r h => by omega, rfl, b, KeepG.refl⟩
  rw [rngD_len] at e1 hrow hlen
  have ec := dLc_of (c := true) (own := [v]) (G := G) hw e1
  rw [okc (by simp; omega), hlen] at ec
  refine ⟨_, ec, ⟨fun r hr => ?_, ?_⟩, by rw [List.length_append, hlen]; rfl, hb.app, hkp.trans KeepG.app⟩
  · rw [List.getElem?_append_left (by omega)]; exact hrow r hr
  · rw [List.getElem?_append_right (by omega), hlen, Nat.sub_self]; rfl
theorem fg_lists {w : DI} {S0 : Sto} (b : Fek N S) (hN : N ≤ S.length) (hk : k ≤ 10) (hw : w G S0 = some (fixS ((List.range k).map fun r => D.tup (rowD k (M r))), k + 1, S)) (hG : v < (wipeG G [v]).length) :
    ∃ S', dLc true [v] w (dgName v) dYes (dCall (opList true) (dCons (dVar v) dNil)) G S0 = some (.loc (S.length + k), S') ∧ GridW S.length k M S' ∧ S'.length = S.length + k + 1 ∧ Fek N S' ∧ KeepG N S S' := by
  let L := S.length
  obtain ⟨out, S1, e1, rfl, hrow, hlen, hb, hkp⟩ := lc_inv (src := fixS ((List.range k).map fun r => D.tup (rowD k (M r)))) (g := dgName v) (t := dYes) (f := dCall (opList true) (dCons (dVar v) dNil)) (G := wipeG G [v]) (ds := (List.range k).map fun r => D.tup (rowD k (M r)))
    (fun i S' acc => acc = (List.range i).map (fun r => D.loc (L + r)) ∧ (∀ r, r < i → S'[L + r]? = some (Cell.lst (rowD k (M r)))) ∧ S'.length = L + i ∧ Fek N S' ∧ KeepG N S S') (fun j S' acc h => rfl)
    (fun i S' acc d hd h => by
      obtain ⟨rfl, hrow, hlen, hb, hkp⟩ := h
      rw [List.getElem?_map] at hd
      obtain ⟨j, q1, rfl⟩ := Option.map_eq_some_iff.mp hd
      have hi : i < k := by have := (List.getElem?_eq_some_iff.mp q1).1; rwa [List.length_range] at this
      rw [List.getElem?_range hi] at q1
      cases q1
      refine ⟨_, S', true, S', rfl, rfl, fun _ => ⟨.loc (L + i), S' ++ [Cell.lst (rowD k (M i))], ?_, ?_, fun r hr => ?_, ?_, hb.app, hkp.trans KeepG.app⟩, fun h => by cases h⟩
      · have hm : opList true [.tup (rowD k (M i))] S' = some (.loc S'.length, S' ++ [Cell.lst (rowD k (M i))]) := okc (by rw [rowD_len]; omega)
        rw [hlen] at hm
        exact dCall_of (dOne_of (d := .tup (rowD k (M i))) (S1 := S') (dVar_at (by rw [List.getElem?_set_self hG]))) hm
      · rw [List.range_succ, List.map_append]; rfl
      · by_cases h : r < i
        · rw [List.getElem?_append_left (by omega)]; exact hrow r h
        · have : r = i := by omega
          subst this
          rw [List.getElem?_append_right (by omega), hlen]
          simp
      · rw [List.length_append, hlen]; rfl) k 0 S [] (by rw [List.length_map, List.length_range]; omega) ⟨rfl, fun r h => by omega, rfl, b, KeepG.refl⟩
  rw [List.length_map, List.length_range] at e1 hrow hlen
  have ec := dLc_of (c := true) (own := [v]) (G := G) hw e1
  rw [okc (by simp; omega), hlen] at ec
  refine ⟨_, ec, ⟨fun r hr => ?_, ?_⟩, by rw [List.length_append, hlen]; rfl, hb.app, hkp.trans KeepG.app⟩
  · rw [List.getElem?_append_left (by omega)]; exact hrow r hr
  · rw [List.getElem?_append_right (by omega), hlen, Nat.sub_self]; rfl
theorem fg_out (g : GridW L k M S) (hk : k ≤ 10) (hu : dVar u G S = some (.loc (L + k), S)) (hG : v < (wipeG G [v]).length) :
    dCall opTuple (dCons (dLc false [v] (dSeqI (dVar u)) (dgName v) dYes (dCall opTuple (dCons (dVar v) dNil))) dNil) G S = some (gridD k M, S) := by
  have hw8 := dSeqI_c (f := dVar u) (G := G) (S := S) (S1 := S) (n := L + k) (ds := (List.range k).map fun r => D.loc (L + r)) hu g.top
  have e8 := lc_pureY (c := false) (own := [v]) (g := dgName v) (f := dCall opTuple (dCons (dVar v) dNil)) (G := G) (l := List.range k) (e := fun r => D.loc (L + r)) hw8 (by rw [List.length_map]) (cel_src g.top) (fun r => .tup (rowD k (M r)))
    (fun r hr => ⟨(wipeG G [v]).set v (some (.loc (L + r))), rfl, dCall_of (dOne_of (d := .loc (L + r)) (S1 := S) (dVar_at (by rw [List.getElem?_set_self hG]))) (tuple_of (seqD_loc (g.row r (List.mem_range.mp hr))) (by rw [rowD_len]; omega))⟩)
  rw [okv (by rw [List.length_map, List.length_range]; omega)] at e8
  exact dCall_of (dOne_of e8) (tuple_of rfl (by rw [List.length_map, List.length_range]; omega))
theorem fg_pair {f : DE} {r i j a b : Nat} {x y : Str} {S0 S1 : Sto} (hf : f G S0 = some (.tup [.str x, .str y], S)) (g : GridW L k M S) (hr : ∀ S, dVar r G S = some (.loc (L + k), S)) (hi : ∀ S, dVar i G S = some (.int (a : Nat), S)) (hj : ∀ S, dVar j G S = some (.int (b : Nat), S)) (ha : a < k) (hb : b < k) (bk : Fek N S) (kp : KeepG N S1 S) (h0 : S1.length ≤ L) (hN : N ≤ S1.length) :
    ∃ S2, dAsg f (dgTup 2 (dgCons (dgSub (dBin opIx (dVar r) (dVar i)) (dVar j)) (dgCons (dgSub (dBin opIx (dVar r) (dVar j)) (dVar i)) dgNil))) G S0 = some (.nx, G, S2) ∧ GridW L k (upd2 (upd2 M a b x) b a y) S2 ∧ Fek N S2 ∧ KeepG N S1 S2 := by
  obtain ⟨p1, g3⟩ := g.put (w := x) ha hb
  obtain ⟨p2, g4⟩ := g3.put (w := y) hb ha
  exact ⟨_, dAsgG_of (d := .tup [.str x, .str y]) (S1 := S) hf (dgTwo_of (dgSub_of (dBin_of (x := .loc (L + k)) (y := .int (a : Nat)) (S1 := S) (S2 := S) (hr S) (hi S) (g.ix ha)) (hj S) p1) (dgSub_of (dBin_of (x := .loc (L + k)) (y := .int (b : Nat)) (hr _) (hj _) (g3.ix hb)) (hi _) p2)), g4, Fek.put (Fek.put bk (by omega)) (by omega), KeepG.put (KeepG.put kp (by omega)) (by omega)⟩
end
end Vw
set_option maxRecDepth 100000
set_option maxHeartbeats 4000000
namespace Vw
open PySem PySem.Spec L2
section
variable {k : Nat} {M : Nat → Nat → Str} {ws : List (List Int)} {es : List Int} {S : Sto}
theorem four_eight : ∀ x ∈ kinds4, x ∈ kinds8 := by decide
theorem pok_spot {x : Str} {t i : Nat} {w : List Int} (hx : x ∈ kinds4) (ht : t < w.length) (h9 : w.length ≤ 9) : PlOk k M w i (pW x t) :=
  ⟨four_eight x hx, by show t < 10; omega, fun h => by rw [show x = ("hand" : Str) from h] at hx; exact absurd hx (by decide), fun _ => ht⟩
theorem pok_hand {t i : Nat} {w : List Int} (ht : t < (evL M w i).length) (h10 : t < 10) : PlOk k M w i (pW "hand" t) := ⟨show ("hand" : Str) ∈ kinds8 by decide, h10, fun _ => ht, fun h => absurd (show ("hand" : Str) ∈ kinds4 from h) (by decide)⟩
theorem three_k : ∀ x ∈ (["rest", "wish", "in"] : List Str), x ∈ kinds8 ∧ ¬ x = ("hand" : Str) ∧ ¬ x ∈ kinds4 := by decide
theorem pok_zero {x : Str} {i : Nat} {w : List Int} (hx : x ∈ (["rest", "wish", "in"] : List Str)) : PlOk k M w i (pW x 0) :=
  ⟨(three_k x hx).1, by show 0 < 10; omega, fun h => absurd h (three_k x hx).2.1, fun h => absurd h (three_k x hx).2.2⟩
end
end Vw
set_option maxRecDepth 100000
set_option maxHeartbeats 4000000
namespace Vw
open PySem PySem.Spec L2
section
variable {k : Nat} {M : Nat → Nat → Str} {ws : List (List Int)} {es : List Int} {ps : List (Str × Nat)} {tk : List ((Nat × Nat) × Nat)} {S : Sto} {i j : Nat} {w : List Int} {p q : Str × Nat}
theorem StP.jq (L : Lk k M ws es) (s : StP k M ws ps tk) (hi : i < k) (hw : ws[i]? = some w) (hp : ps[i]? = some p) : ∃ j q, p.1 ∈ kinds4 → w[p.2]? = some ((j : Nat) : Int) ∧ j < k ∧ ps[j]? = some q := by
  have o := s.at_ i w p hw hp
  by_cases h : p.1 ∈ kinds4
  · obtain ⟨j, hj, hjk, _⟩ := L.spot_j hi hw (o.spot h)
    exact ⟨j, ps[j]'(by rw [s.st.len]; exact hjk), fun _ => ⟨hj, hjk, List.getElem?_eq_getElem _⟩⟩
  · exact ⟨0, p, fun x => absurd x h⟩
theorem StP.wp (L : Lk k M ws es) (s : StP k M ws ps tk) (hi : i < k) : ∃ w p, ws[i]? = some w ∧ ps[i]? = some p := by
  obtain ⟨w, hw⟩ := L.way hi
  exact ⟨w, ps[i]'(by rw [s.st.len]; exact hi), hw, List.getElem?_eq_getElem _⟩
theorem StP.put (s : StP k M ws ps tk) (hi : i < k) (hw : ws[i]? = some w) (o : PlOk k M w i q) : StP k M ws (ps.set i q) tk := by
  refine ⟨⟨by rw [List.length_set]; exact s.st.len, fun p hp => ?_, s.st.prs, s.st.own⟩, fun a w' p hw' hp => ?_⟩
  · rcases List.mem_or_eq_of_mem_set hp with h | h
    · exact s.st.pl p h
    · rw [h]; exact ⟨o.kind, o.ten⟩
  · rw [List.getElem?_set] at hp
    by_cases h : i = a
    · subst h
      rw [if_pos rfl, if_pos (by rw [s.st.len]; exact hi)] at hp
      cases hp
      rw [hw] at hw'
      cases hw'
      exact o
    · rw [if_neg h] at hp
      exact s.at_ a w' p hw' hp
end
end Vw
set_option maxRecDepth 100000
set_option maxHeartbeats 4000000
namespace Vw
open PySem PySem.Spec L2
section
variable {k : Nat} {M : Nat → Nat → Str} {ws : List (List Int)} {es : List Int} {ps : List (Str × Nat)} {tk : List ((Nat × Nat) × Nat)} {S : Sto} {i j : Nat} {w : List Int} {p q : Str × Nat}
/-- the new place -/
def placeS (k : Nat) (M : Nat → Nat → Str) (es : List Int) (ps : List (Str × Nat)) (tk : List ((Nat × Nat) × Nat)) (w : List Int) (i : Nat) (p : Str × Nat) (j : Nat) (q : Str × Nat) : Str × Nat :=
  let own := evL M w i
  if p.1 = ("rest" : Str) then begunP es own i
  else if p.1 = ("in" : Str) then ("rest", 0)
  else if p.1 = ("yield" : Str) then ("low", p.2)
  else if p.1 = ("wish" : Str) then raisedP es own i
  else if p.1 = ("hand" : Str) then handP es i own.length p.2
  else if p.1 = ("anew" : Str) then onP k p.2
  else if p.1 = ("low" : Str) then (if decide (M i j = ("slip" : Str)) = true then ("anew", p.2) else begunP es own i)
  else if goesS M es ps tk i j q = true then onP k p.2
  else ("yield", p.2)
def tokS (M : Nat → Nat → Str) (tk : List ((Nat × Nat) × Nat)) (w : List Int) (i : Nat) (p : Str × Nat) : List ((Nat × Nat) × Nat) :=
  if p.1 = ("hand" : Str) then handT tk i ((evL M w i).getD p.2 0).toNat else tk
theorem kinds_or (h : p.1 ∈ kinds8) : p.1 = ("rest" : Str) ∨ p.1 = ("wish" : Str) ∨ p.1 = ("in" : Str) ∨ p.1 = ("hand" : Str) ∨ p.1 = ("look" : Str) ∨ p.1 = ("yield" : Str) ∨ p.1 = ("low" : Str) ∨ p.1 = ("anew" : Str) := by
  simpa only [kinds8, List.mem_cons, List.not_mem_nil, or_false] using h
theorem afterS_eq {x : Str} (hk : p.1 ∈ kinds8) (h : nextW k M es ps tk i p j q = some x) : afterS k M es ps tk w i p j q = (ps.set i (placeS k M es ps tk w i p j q), tokS M tk w i p) := by
  unfold afterS placeS tokS
  rcases kinds_or hk with e | e | e | e | e | e | e | e
  · simp only [e, if_true, if_pos, if_neg (show ¬ ("rest" : Str) = ("hand" : Str) by decide)]
  · rw [e]
    simp only [if_neg (show ¬ ("wish" : Str) = ("rest" : Str) by decide), if_neg (show ¬ ("wish" : Str) = ("in" : Str) by decide), if_neg (show ¬ ("wish" : Str) = ("yield" : Str) by decide), if_true, if_neg (show ¬ ("wish" : Str) = ("hand" : Str) by decide)]
  · rw [e]
    simp only [if_neg (show ¬ ("in" : Str) = ("rest" : Str) by decide), if_true, if_neg (show ¬ ("in" : Str) = ("hand" : Str) by decide)]
  · rw [e]
    simp only [if_neg (show ¬ ("hand" : Str) = ("rest" : Str) by decide), if_neg (show ¬ ("hand" : Str) = ("in" : Str) by decide), if_neg (show ¬ ("hand" : Str) = ("yield" : Str) by decide), if_neg (show ¬ ("hand" : Str) = ("wish" : Str) by decide), if_true]
  · rw [e]
    simp only [if_neg (show ¬ ("look" : Str) = ("rest" : Str) by decide), if_neg (show ¬ ("look" : Str) = ("in" : Str) by decide), if_neg (show ¬ ("look" : Str) = ("yield" : Str) by decide), if_neg (show ¬ ("look" : Str) = ("wish" : Str) by decide), if_neg (show ¬ ("look" : Str) = ("hand" : Str) by decide), if_neg (show ¬ ("look" : Str) = ("anew" : Str) by decide), if_neg (show ¬ ("look" : Str) = ("low" : Str) by decide)]
    unfold nextW at h
    rw [if_pos e] at h
    cases hg : goesS M es ps tk i j q with
    | true => rfl
    | false =>
      rw [hg, if_neg Bool.false_ne_true] at h
      cases hb : decide (M i j ∈ (["bow", "slip"] : List Str)) with
      | true => rfl
      | false => rw [hb, if_neg Bool.false_ne_true] at h; cases h
  · rw [e]
    simp only [if_neg (show ¬ ("yield" : Str) = ("rest" : Str) by decide), if_neg (show ¬ ("yield" : Str) = ("in" : Str) by decide), if_true, if_neg (show ¬ ("yield" : Str) = ("hand" : Str) by decide)]
  · rw [e]
    simp only [if_neg (show ¬ ("low" : Str) = ("rest" : Str) by decide), if_neg (show ¬ ("low" : Str) = ("in" : Str) by decide), if_neg (show ¬ ("low" : Str) = ("yield" : Str) by decide), if_neg (show ¬ ("low" : Str) = ("wish" : Str) by decide), if_neg (show ¬ ("low" : Str) = ("hand" : Str) by decide), if_neg (show ¬ ("low" : Str) = ("anew" : Str) by decide), if_true]
    unfold nextW at h
    rw [if_neg (by rw [e]; decide), if_pos e] at h
    cases hd : decide (flagS es q.1 j = ("down" : Str)) with
    | true => rfl
    | false => rw [hd, if_neg Bool.false_ne_true] at h; cases h
  · rw [e]
    simp only [if_neg (show ¬ ("anew" : Str) = ("rest" : Str) by decide), if_neg (show ¬ ("anew" : Str) = ("in" : Str) by decide), if_neg (show ¬ ("anew" : Str) = ("yield" : Str) by decide), if_neg (show ¬ ("anew" : Str) = ("wish" : Str) by decide), if_neg (show ¬ ("anew" : Str) = ("hand" : Str) by decide), if_true]
end
end Vw
set_option maxRecDepth 100000
set_option maxHeartbeats 4000000
namespace Vw
open PySem PySem.Spec L2
section
variable {k : Nat} {M : Nat → Nat → Str} {ws : List (List Int)} {es : List Int} {ps : List (Str × Nat)} {tk : List ((Nat × Nat) × Nat)} {S : Sto} {i j : Nat} {w : List Int} {p q : Str × Nat} {x : Str}
theorem wLast_or {a b : Str} {t : Nat} : (t + 2 = k ∧ wLast k t a b = a) ∨ (¬ t + 2 = k ∧ wLast k t a b = b) := by
  unfold wLast
  by_cases h : t + 2 = k
  · exact .inl ⟨h, by rw [decide_eq_true h]; rfl⟩
  · exact .inr ⟨h, by rw [decide_eq_false h]; rfl⟩
/-- the word, the kind of place, and the new place -/
theorem step_cases (hk : p.1 ∈ kinds8) (h : nextW k M es ps tk i p j q = some x) :
    (p.1 = ("rest" : Str) ∧ x = "begin" ∧ placeS k M es ps tk w i p j q = begunP es (evL M w i) i) ∨
    (p.1 = ("wish" : Str) ∧ x = "raise" ∧ placeS k M es ps tk w i p j q = raisedP es (evL M w i) i) ∨
    (p.1 = ("in" : Str) ∧ x = "leave" ∧ placeS k M es ps tk w i p j q = pW "rest" (0)) ∨
    (p.1 = ("hand" : Str) ∧ x = "hand" ∧ placeS k M es ps tk w i p j q = handP es i (evL M w i).length p.2) ∨
    (p.1 = ("yield" : Str) ∧ x = "lower" ∧ placeS k M es ps tk w i p j q = pW "low" (p.2)) ∨
    (p.1 = ("low" : Str) ∧ x = "see" ∧ placeS k M es ps tk w i p j q = (if decide (M i j = ("slip" : Str)) = true then pW "anew" (p.2) else begunP es (evL M w i) i)) ∨
    (p.1 = ("anew" : Str) ∧ x = "enter" ∧ p.2 + 2 = k ∧ placeS k M es ps tk w i p j q = pW "in" (0)) ∨
    (p.1 = ("anew" : Str) ∧ x = "raise" ∧ ¬ p.2 + 2 = k ∧ placeS k M es ps tk w i p j q = pW "look" (p.2 + 1)) ∨
    (p.1 = ("look" : Str) ∧ x = "enter" ∧ p.2 + 2 = k ∧ placeS k M es ps tk w i p j q = pW "in" (0)) ∨
    (p.1 = ("look" : Str) ∧ x = "look" ∧ ¬ p.2 + 2 = k ∧ placeS k M es ps tk w i p j q = pW "look" (p.2 + 1)) ∨
    (p.1 = ("look" : Str) ∧ x = "yield" ∧ placeS k M es ps tk w i p j q = pW "yield" (p.2)) := by
  have on_in : p.2 + 2 = k → onP k p.2 = pW "in" 0 := fun e => by unfold onP; rw [decide_eq_true e]; rfl
  have on_lk : ¬ p.2 + 2 = k → onP k p.2 = pW "look" (p.2 + 1) := fun e => by unfold onP; rw [decide_eq_false e]; rfl
  unfold nextW at h
  unfold placeS
  rcases kinds_or hk with e | e | e | e | e | e | e | e
  · rw [e] at h ⊢
    exact .inl ⟨rfl, (Option.some.inj h).symm, by rw [if_pos rfl]⟩
  · rw [e] at h ⊢
    exact .inr (.inl ⟨rfl, (Option.some.inj h).symm, by rw [if_neg (by decide), if_neg (by decide), if_neg (by decide), if_pos rfl]⟩)
  · rw [e] at h ⊢
    exact .inr (.inr (.inl ⟨rfl, (Option.some.inj h).symm, by rw [if_neg (by decide), if_pos rfl]⟩))
  · rw [e] at h ⊢
    exact .inr (.inr (.inr (.inl ⟨rfl, (Option.some.inj h).symm, by rw [if_neg (by decide), if_neg (by decide), if_neg (by decide), if_neg (by decide), if_pos rfl]⟩)))
  · rw [e] at h ⊢
    rw [if_pos rfl] at h
    rw [if_neg (by decide), if_neg (by decide), if_neg (by decide), if_neg (by decide), if_neg (by decide), if_neg (by decide), if_neg (by decide)]
    cases hg : goesS M es ps tk i j q with
    | true =>
      rw [hg, if_pos rfl] at h
      rw [if_pos rfl]
      rcases wLast_or (k := k) (t := p.2) (a := "enter") (b := "look") with ⟨h1, h2⟩ | ⟨h1, h2⟩
      · exact .inr (.inr (.inr (.inr (.inr (.inr (.inr (.inr (.inl ⟨rfl, by rw [← Option.some.inj h]; exact h2, h1, on_in h1⟩))))))))
      · exact .inr (.inr (.inr (.inr (.inr (.inr (.inr (.inr (.inr (.inl ⟨rfl, by rw [← Option.some.inj h]; exact h2, h1, on_lk h1⟩)))))))))
    | false =>
      rw [hg, if_neg Bool.false_ne_true] at h
      rw [if_neg Bool.false_ne_true]
      cases hb : decide (M i j ∈ (["bow", "slip"] : List Str)) with
      | true =>
        rw [hb, if_pos rfl] at h
        exact .inr (.inr (.inr (.inr (.inr (.inr (.inr (.inr (.inr (.inr ⟨rfl, (Option.some.inj h).symm, rfl⟩)))))))))
      | false => rw [hb, if_neg Bool.false_ne_true] at h; cases h
  · rw [e] at h ⊢
    exact .inr (.inr (.inr (.inr (.inl ⟨rfl, (Option.some.inj h).symm, by rw [if_neg (by decide), if_neg (by decide), if_pos rfl]⟩))))
  · rw [e] at h ⊢
    rw [if_neg (by decide), if_pos rfl] at h
    cases hd : decide (flagS es q.1 j = ("down" : Str)) with
    | true =>
      rw [hd, if_pos rfl] at h
      exact .inr (.inr (.inr (.inr (.inr (.inl ⟨rfl, (Option.some.inj h).symm, by rw [if_neg (by decide), if_neg (by decide), if_neg (by decide), if_neg (by decide), if_neg (by decide), if_neg (by decide), if_pos rfl]⟩)))))
    | false => rw [hd, if_neg Bool.false_ne_true] at h; cases h
  · rw [e] at h ⊢
    rw [if_neg (by decide), if_neg (by decide), if_pos rfl] at h
    rw [if_neg (by decide), if_neg (by decide), if_neg (by decide), if_neg (by decide), if_neg (by decide), if_pos rfl]
    rcases wLast_or (k := k) (t := p.2) (a := "enter") (b := "raise") with ⟨h1, h2⟩ | ⟨h1, h2⟩
    · exact .inr (.inr (.inr (.inr (.inr (.inr (.inl ⟨rfl, by rw [← Option.some.inj h]; exact h2, h1, on_in h1⟩))))))
    · exact .inr (.inr (.inr (.inr (.inr (.inr (.inr (.inl ⟨rfl, by rw [← Option.some.inj h]; exact h2, h1, on_lk h1⟩)))))))
theorem begunP_pok (L : Lk k M ws es) (hw : ws[i]? = some w) : PlOk k M w i (begunP es (evL M w i) i) := by
  unfold begunP
  split
  · rename_i hc
    have h := (of_decide_eq_true hc).2
    exact pok_hand (by cases e : evL M w i with | nil => exact absurd e h | cons _ _ => simp) (by decide)
  · exact pok_zero (by decide)
theorem StP.after (L : Lk k M ws es) (s : StP k M ws ps tk) (h2 : 2 ≤ k) (hi : i < k) (hw : ws[i]? = some w) (hp : ps[i]? = some p) (h : nextW k M es ps tk i p j q = some x) : StP k M ws (ps.set i (placeS k M es ps tk w i p j q)) (tokS M tk w i p) := by
  have o := s.at_ i w p hw hp
  have hwl := L.wlen hi hw
  have hk10 := L.k10
  have hel := L.ev_len hw
  have ht : ∀ t : ((Nat × Nat) × Nat), t ∈ tokS M tk w i p → t.2 < 10 := fun t ht => by
    unfold tokS at ht
    by_cases hh : p.1 = ("hand" : Str)
    · rw [if_pos hh] at ht
      obtain ⟨t0, ht0, rfl⟩ := List.mem_map.mp ht
      have hhd := o.hand hh
      obtain ⟨j', ej, hj', _, _⟩ := L.ev_mem hw (List.getElem_mem hhd)
      have e2 : ((evL M w i).getD p.2 0).toNat = j' := by rw [List.getD_eq_getElem?_getD, List.getElem?_eq_getElem hhd, ej]; rfl
      show (if isTok _ _ t0 = true then ((evL M w i).getD p.2 0).toNat else t0.2) < 10
      split
      · rw [e2]; omega
      · exact s.st.own t0 ht0
    · rw [if_neg hh] at ht
      exact s.st.own t ht
  have hpr : (tokS M tk w i p).map (·.1) = evUp k M := by
    unfold tokS
    split
    · unfold handT
      rw [List.map_map]
      exact s.st.prs
    · exact s.st.prs
  have s0 : StP k M ws ps (tokS M tk w i p) := ⟨⟨s.st.len, s.st.pl, hpr, ht⟩, s.at_⟩
  refine s0.put hi hw ?_
  have bg := begunP_pok (es := es) L hw
  rcases step_cases (w := w) o.kind h with ⟨e, _, hr⟩ | ⟨e, _, hr⟩ | ⟨e, _, hr⟩ | ⟨e, _, hr⟩ | ⟨e, _, hr⟩ | ⟨e, _, hr⟩ | ⟨e, _, h1, hr⟩ | ⟨e, _, h1, hr⟩ | ⟨e, _, h1, hr⟩ | ⟨e, _, h1, hr⟩ | ⟨e, _, hr⟩ <;> rw [hr]
  · exact bg
  · unfold raisedP
    split
    · rename_i hc
      have hne := (of_decide_eq_true hc).1
      exact pok_hand (by cases e : evL M w i with | nil => exact absurd e hne | cons _ _ => simp) (by decide)
    · exact pok_spot (by decide) (by omega) (by omega)
  · exact pok_zero (by decide)
  · unfold handP
    split
    · rename_i hc
      have := of_decide_eq_true hc
      exact pok_hand this (by have hl : (evL M w i).length ≤ w.length := List.length_filter_le _ _; omega)
    · split
      · exact pok_zero (by decide)
      · exact pok_spot (by decide) (by omega) (by omega)
  · have := o.spot (by rw [e]; decide)
    exact pok_spot (by decide) this (by omega)
  · split
    · have := o.spot (by rw [e]; decide)
      exact pok_spot (by decide) this (by omega)
    · exact bg
  · exact pok_zero (by decide)
  · have := o.spot (by rw [e]; decide)
    exact pok_spot (by decide) (by omega) (by omega)
  · exact pok_zero (by decide)
  · have := o.spot (by rw [e]; decide)
    exact pok_spot (by decide) (by omega) (by omega)
  · have := o.spot (by rw [e]; decide)
    exact pok_spot (by decide) this (by omega)
end
end Vw
set_option maxRecDepth 100000
set_option maxHeartbeats 4000000
namespace Vw
open PySem PySem.Spec L2
abbrev Pls := List (Str × Nat)
abbrev Tks := List ((Nat × Nat) × Nat)
structure Ev where
  i : Nat
  x : Str
  ps : Pls
  tk : Tks
def StepS (k : Nat) (M : Nat → Nat → Str) (ws : List (List Int)) (es : List Int) (ps : Pls) (tk : Tks) (e : Ev) : Prop :=
  ∃ (w : List Int) (p : Str × Nat) (j : Nat) (q : Str × Nat), e.i < k ∧ ws[e.i]? = some w ∧ ps[e.i]? = some p ∧ (p.1 ∈ kinds4 → w[p.2]? = some ((j : Nat) : Int) ∧ j < k ∧ ps[j]? = some q) ∧
    nextW k M es ps tk e.i p j q = some e.x ∧ e.ps = ps.set e.i (placeS k M es ps tk w e.i p j q) ∧ e.tk = tokS M tk w e.i p
def RunTo (k : Nat) (M : Nat → Nat → Str) (ws : List (List Int)) (es : List Int) : Pls → Tks → List Ev → Pls → Tks → Prop
  | ps, tk, [], ps', tk' => ps = ps' ∧ tk = tk'
  | ps, tk, e :: r, ps', tk' => StepS k M ws es ps tk e ∧ RunTo k M ws es e.ps e.tk r ps' tk'
section
variable {k : Nat} {M : Nat → Nat → Str} {ws : List (List Int)} {es own : List Int} {ps ps' : Pls} {tk tk' : Tks} {S : Sto} {i c : Nat} {w : List Int} {p p' q : Str × Nat} {x : Str} {e : Ev} {evs : List Ev} {xs : List Str}
theorem RunTo.app : ∀ {l r : List Ev} {a b b1 : Pls} {t u u1 : Tks}, RunTo k M ws es a t l b u → RunTo k M ws es b u r b1 u1 → RunTo k M ws es a t (l ++ r) b1 u1
  | [], _, _, _, _, _, _, _, ⟨rfl, rfl⟩, h => h
  | _ :: _, _, _, _, _, _, _, _, ⟨h1, h2⟩, h => ⟨h1, RunTo.app h2 h⟩
def fC (es own : List Int) (i : Nat) (p : Str × Nat) : Nat :=
  if p.1 = ("wish" : Str) then (if decide ((i : Int) ∈ es) = true then 1 + own.length else 1) else if p.1 = ("hand" : Str) then (if decide ((i : Int) ∈ es) = true then 1 + p.2 else 2 + p.2) else 2 + own.length + p.2
def CI (es own : List Int) (i : Nat) (p : Str × Nat) (c : Nat) (b : Bool) : Prop := p.1 = ("rest" : Str) ∨ p.1 = ("in" : Str) ∨ (b = true ∧ p.1 ∈ (["wish", "hand", "look"] : List Str) ∧ c = fC es own i p) ∨ (b = false ∧ fC es own i p < c)
theorem CI.go {b : Bool} {n : Nat} (h : CI es own i p n b) (h1 : ¬ p.1 = ("rest" : Str)) (h2 : ¬ p.1 = ("in" : Str)) : (b = true ∧ p.1 ∈ (["wish", "hand", "look"] : List Str) ∧ n = fC es own i p) ∨ (b = false ∧ fC es own i p < n) := by
  rcases h with h | h | h | h
  · exact absurd h h1
  · exact absurd h h2
  · exact .inl h
  · exact .inr h
def Alone (k c : Nat) (ps : Pls) (p : Str × Nat) : Prop := ps[c]? = some p ∧ ∀ j, j < k → j ≠ c → ps[j]? = some restP
def LR (k : Nat) (M : Nat → Nat → Str) (ws : List (List Int)) (es : List Int) (c : Nat) (p : Str × Nat) (xs : List Str) (p' : Str × Nat) : Prop :=
  ∀ ps tk, StP k M ws ps tk → Alone k c ps p → ∃ evs ps' tk', RunTo k M ws es ps tk evs ps' tk' ∧ evs.map (·.i) = List.replicate xs.length c ∧ evs.map (·.x) = xs ∧ StP k M ws ps' tk' ∧ Alone k c ps' p'
theorem LR.comp {ys : List Str} {p2 : Str × Nat} (h1 : LR k M ws es c p xs p') (h2 : LR k M ws es c p' ys p2) : LR k M ws es c p (xs ++ ys) p2 := by
  intro ps tk s a
  obtain ⟨e1, ps1, tk1, r1, i1, x1, s1, a1⟩ := h1 ps tk s a
  obtain ⟨e2, ps2, tk2, r2, i2, x2, s2, a2⟩ := h2 ps1 tk1 s1 a1
  exact ⟨e1 ++ e2, ps2, tk2, r1.app r2, by rw [List.map_append, i1, i2, List.length_append, List.replicate_append_replicate], by rw [List.map_append, x1, x2], s2, a2⟩
theorem LR.step (L : Lk k M ws es) (h2 : 2 ≤ k) (hc : c < k) (hw : ws[c]? = some w)
    (h : ∀ ps tk j q, Alone k c ps p → (p.1 ∈ kinds4 → w[p.2]? = some ((j : Nat) : Int) ∧ j < k ∧ ps[j]? = some q) → nextW k M es ps tk c p j q = some x ∧ placeS k M es ps tk w c p j q = p') : LR k M ws es c p [x] p' := by
  intro ps tk s a
  obtain ⟨j, q, hjq⟩ := s.jq L hc hw a.1
  obtain ⟨e1, e2⟩ := h ps tk j q a hjq
  have s2 := s.after L h2 hc hw a.1 e1
  rw [e2] at s2
  refine ⟨[⟨c, x, ps.set c p', tokS M tk w c p⟩], ps.set c p', tokS M tk w c p, ⟨⟨w, p, j, q, hc, hw, a.1, hjq, e1, by rw [e2], rfl⟩, rfl, rfl⟩, rfl, rfl, s2, ?_, fun j hj hne => ?_⟩
  · rw [List.getElem?_set_self (List.getElem?_eq_some_iff.mp a.1).1]
  · rw [List.getElem?_set_ne (fun h => hne h.symm)]
    exact a.2 j hj hne
end
end Vw
set_option maxRecDepth 100000
set_option maxHeartbeats 4000000
namespace Vw
open PySem PySem.Spec L2
theorem Bag.app {n : Nat} {S R : Sto} (b : Bag n S) : Bag n (S ++ R) := by
  obtain ⟨far, st, tu, rest, rfl, h⟩ := b
  exact ⟨far, st, tu, rest ++ R, rfl, h⟩
/-- a loop that may return, and that changes the store -/
theorem for_ret {src : Src} {g : DG} {b : DS} {ds : List D} (I : Nat → Gam → Sto → Prop) (Q : D → Sto → Prop) (hsrc : ∀ i G S, I i G S → src i S = some ds[i]?)
    (step : ∀ i G S d, ds[i]? = some d → I i G S → ∃ G1 S1 fl G2 S2, g d G S = some (G1, S1) ∧ b G1 S1 = some (fl, G2, S2) ∧ ((fl = .nx ∧ I (i + 1) G2 S2) ∨ ∃ r, fl = .rt r ∧ Q r S2)) :
    ∀ (k i : Nat) (G : Gam) (S : Sto), i + k = ds.length → I i G S → ∃ fl G' S', dLoop src g b (k + 1) i G S = some (fl, G', S') ∧ ((fl = .nx ∧ I ds.length G' S') ∨ ∃ r, fl = .rt r ∧ Q r S') := by
  intro k
  induction k with
  | zero =>
    intro i G S hi h
    have e : ds[i]? = none := List.getElem?_eq_none (by omega)
    have e2 : i = ds.length := by omega
    refine ⟨.nx, G, S, ?_, .inl ⟨rfl, e2 ▸ h⟩⟩
    unfold dLoop
    rw [hsrc i G S h, e]; rfl
  | succ k ih =>
    intro i G S hi h
    obtain ⟨d, e⟩ : ∃ d, ds[i]? = some d := ⟨ds[i]'(by omega), List.getElem?_eq_getElem _⟩
    obtain ⟨G1, S1, fl, G2, S2, h1, h2, h3⟩ := step i G S d e h
    rcases h3 with ⟨rfl, h3⟩ | ⟨r, rfl, h3⟩
    · obtain ⟨fl, G', S', h4, h5⟩ := ih (i + 1) G2 S2 (by omega) h3
      refine ⟨fl, G', S', ?_, h5⟩
      unfold dLoop
      rw [hsrc i G S h, e]
      simp only [Option.bind_some, h1, h2, h4]
    · refine ⟨.rt r, G2, S2, ?_, .inr ⟨r, rfl, h3⟩⟩
      unfold dLoop
      rw [hsrc i G S h, e]
      simp only [Option.bind_some, h1, h2]
end Vw
set_option maxRecDepth 100000
set_option maxHeartbeats 4000000
namespace Vw
open PySem PySem.Spec L2
theorem zip_srcT {α : Type} {S : Sto} {l : List α} {f g : α → D} (i : Nat) : zipS (fixS (l.map f)) (fixS (l.map g)) i S = some (l.map fun e => D.tup [f e, g e])[i]? := by
  unfold zipS
  rw [show fixS (l.map f) i S = some (l.map f)[i]? from rfl, show fixS (l.map g) i S = some (l.map g)[i]? from rfl]
  simp only [List.getElem?_map]
  cases l[i]? <;> rfl
theorem afterS_none {k : Nat} {M : Nat → Nat → Str} {es : List Int} {ps : List (Str × Nat)} {tk : List ((Nat × Nat) × Nat)} {w : List Int} {i j : Nat} {p q : Str × Nat} (hk : p.1 ∈ kinds8) (h : nextW k M es ps tk i p j q = none) : afterS k M es ps tk w i p j q = (ps, tk) := by
  unfold nextW at h
  unfold afterS
  rcases kinds_or hk with e | e | e | e | e | e | e | e
  · rw [e] at h; cases h
  · rw [e] at h; cases h
  · rw [e] at h; cases h
  · rw [e] at h; cases h
  · rw [e] at h ⊢
    rw [if_pos rfl] at h
    rw [if_neg (by decide), if_neg (by decide), if_neg (by decide), if_neg (by decide), if_neg (by decide), if_neg (by decide), if_neg (by decide)]
    cases hg : goesS M es ps tk i j q with
    | true => rw [hg, if_pos rfl] at h; cases h
    | false =>
      rw [hg, if_neg Bool.false_ne_true] at h
      rw [if_neg Bool.false_ne_true]
      cases hb : decide (M i j ∈ (["bow", "slip"] : List Str)) with
      | true => rw [hb, if_pos rfl] at h; cases h
      | false => rfl
  · rw [e] at h; cases h
  · rw [e] at h ⊢
    rw [if_neg (by decide), if_pos rfl] at h
    rw [if_neg (by decide), if_neg (by decide), if_neg (by decide), if_neg (by decide), if_neg (by decide), if_neg (by decide), if_pos rfl]
    cases hd : decide (flagS es q.1 j = ("down" : Str)) with
    | true => rw [hd, if_pos rfl] at h; cases h
    | false => rfl
  · rw [e] at h; cases h
end Vw
set_option maxRecDepth 100000
set_option maxHeartbeats 4000000
namespace Vw
open PySem PySem.Spec L2
def wAt (ws : List (List Int)) (i : Nat) : List Int := ws.getD i []
def pAt (ps : Pls) (i : Nat) : Str × Nat := ps.getD i ("", 0)
def jAt (ws : List (List Int)) (ps : Pls) (i : Nat) : Nat := jOf (wAt ws i) (pAt ps i).2
def nx1 (k : Nat) (M : Nat → Nat → Str) (ws : List (List Int)) (es : List Int) (ps : Pls) (tk : Tks) (i : Nat) : Option Str := nextW k M es ps tk i (pAt ps i) (jAt ws ps i) (pAt ps (jAt ws ps i))
def af1 (k : Nat) (M : Nat → Nat → Str) (ws : List (List Int)) (es : List Int) (ps : Pls) (tk : Tks) (i : Nat) : Pls × Tks := afterS k M es ps tk (wAt ws i) i (pAt ps i) (jAt ws ps i) (pAt ps (jAt ws ps i))
section
variable {k : Nat} {M : Nat → Nat → Str} {ws : List (List Int)} {es : List Int} {ps : Pls} {tk : Tks} {S : Sto} {i : Nat} {x : Str}
theorem getD_at {α : Type} {l : List α} {i : Nat} {a d : α} (h : l[i]? = some a) : l.getD i d = a := by
  rw [List.getD_eq_getElem?_getD, h]; rfl
theorem at1 (L : Lk k M ws es) (s : StP k M ws ps tk) (hi : i < k) : ws[i]? = some (wAt ws i) ∧ ps[i]? = some (pAt ps i) ∧ ((pAt ps i).1 ∈ kinds4 → (wAt ws i)[(pAt ps i).2]? = some ((jAt ws ps i : Nat) : Int) ∧ jAt ws ps i < k ∧ ps[jAt ws ps i]? = some (pAt ps (jAt ws ps i))) := by
  obtain ⟨w, p, hw, hp⟩ := s.wp L hi
  have ew : wAt ws i = w := getD_at hw
  have ep : pAt ps i = p := getD_at hp
  obtain ⟨j, q, hjq⟩ := s.jq L hi hw hp
  refine ⟨by rw [ew]; exact hw, by rw [ep]; exact hp, fun h => ?_⟩
  rw [ep] at h
  obtain ⟨a1, a2, a3⟩ := hjq h
  have ej : jAt ws ps i = j := by
    unfold jAt jOf
    rw [ew, ep, getD_at a1]
    exact Int.toNat_natCast j
  have eq : pAt ps j = q := getD_at a3
  rw [ej, ew, ep, eq]
  exact ⟨a1, a2, a3⟩
theorem af_none (L : Lk k M ws es) (s : StP k M ws ps tk) (hi : i < k) (h : nx1 k M ws es ps tk i = none) : af1 k M ws es ps tk i = (ps, tk) := by
  obtain ⟨h1, h2, _⟩ := at1 L s hi
  exact afterS_none (s.at_ i _ _ h1 h2).kind h
theorem af_eq (L : Lk k M ws es) (s : StP k M ws ps tk) (hi : i < k) (h : nx1 k M ws es ps tk i = some x) : af1 k M ws es ps tk i = (ps.set i (placeS k M es ps tk (wAt ws i) i (pAt ps i) (jAt ws ps i) (pAt ps (jAt ws ps i))), tokS M tk (wAt ws i) i (pAt ps i)) := by
  obtain ⟨h1, h2, _⟩ := at1 L s hi
  exact afterS_eq (s.at_ i _ _ h1 h2).kind h
theorem af_stp (L : Lk k M ws es) (h2 : 2 ≤ k) (s : StP k M ws ps tk) (hi : i < k) : StP k M ws (af1 k M ws es ps tk i).1 (af1 k M ws es ps tk i).2 := by
  obtain ⟨a1, a2, _⟩ := at1 L s hi
  cases h : nx1 k M ws es ps tk i with
  | none => rw [af_none L s hi h]; exact s
  | some x => rw [af_eq L s hi h]; exact s.after L h2 hi a1 a2 h
end
end Vw
set_option maxRecDepth 100000
set_option maxHeartbeats 4000000
namespace Vw
open PySem PySem.Spec L2
end Vw
set_option maxRecDepth 100000
set_option maxHeartbeats 4000000
namespace Vw
open PySem PySem.Spec L2
def goRun (k : Nat) (M : Nat → Nat → Str) (ws : List (List Int)) (es : List Int) : Pls → Tks → List Nat → List Ev
  | _, _, [] => []
  | ps, tk, h :: hs => match nx1 k M ws es ps tk h with
    | none => []
    | some x => ⟨h, x, (af1 k M ws es ps tk h).1, (af1 k M ws es ps tk h).2⟩ :: goRun k M ws es (af1 k M ws es ps tk h).1 (af1 k M ws es ps tk h).2 hs
def endS (ps : Pls) (tk : Tks) : List Ev → Pls × Tks
  | [] => (ps, tk)
  | e :: l => endS e.ps e.tk l
end Vw
set_option maxRecDepth 100000
set_option maxHeartbeats 4000000
namespace Vw
open PySem PySem.Spec L2
theorem listText_le {B : Nat} {ts : List Str} (h : ∀ t ∈ ts, t.length ≤ B) : (listText ts).length ≤ ts.length * (B + 2) + 3 := by
  cases ts with
  | nil => exact Nat.le_trans (by decide : (listText []).length ≤ 3) (Nat.le_add_left _ _)
  | cons t r =>
    have h1 := textFrom_length_pos r 1 (("[" : Str) ++ (if (0 : Nat) > 0 then ", " else "" : String) ++ t) (Nat.succ_pos 0)
    have e : ((("[" : Str) ++ (if (0 : Nat) > 0 then ", " else "" : String) ++ t)).length = 1 + t.length := by
      rw [str_app_len, str_app_len]; rfl
    have hX : (listText (t :: r)).length = (textFrom 0 "[" (t :: r)).length + 1 := by
      show (textFrom 0 "[" (t :: r) ++ "]").length = _
      rw [str_app_len]; rfl
    have hY : (textFrom 0 "[" (t :: r)).length = (textFrom 1 (("[" : Str) ++ (if (0 : Nat) > 0 then ", " else "" : String) ++ t) r).length := rfl
    have hp := piled_le (ts := r) fun x hx => h x (List.mem_cons_of_mem _ hx)
    have h2 := h t List.mem_cons_self
    rw [hX, hY, h1, e, List.length_cons, Nat.succ_mul]
    omega
theorem sm_list {B n C : Nat} {ps : List PyData} (h : SmA B ps) (hn : ps.length ≤ n) (hC : n * (B + 2) + 3 ≤ C) (hd : PyData.depthAll ps ≤ 8) : Sm C (.list ps) ∧ (PyData.list ps).depth = PyData.depthAll ps + 1 := by
  refine ⟨⟨h.sh, h.nd, ?_, ?_⟩, rfl⟩
  · show PyData.depthAll ps + 1 ≤ 10
    omega
  · show (listText (PyData.shownAll ps)).length ≤ C
    have h1 := listText_le h.ln
    rw [h.ct] at h1
    have h2 : ps.length * (B + 2) ≤ n * (B + 2) := Nat.mul_le_mul_right _ hn
    omega
/-- a row of values, each of which can be shown -/
inductive Shows (B d : Nat) : List D → List PyData → Prop where
  | nil : Shows B d [] []
  | cons {x : D} {p : PyData} {xs : List D} {ps : List PyData} : (∀ fl, toP fl x = some p) → Sm B p → p.depth ≤ d → Shows B d xs ps → Shows B d (x :: xs) (p :: ps)
theorem Shows.sm {B d : Nat} (hd : d ≤ 9) : ∀ {xs : List D} {ps : List PyData}, Shows B d xs ps → SmA B ps ∧ PyData.depthAll ps ≤ d
  | _, _, .nil => ⟨smA_nil, Nat.zero_le _⟩
  | _, _, .cons e s h t => ⟨smA_cons s (by omega) (t.sm hd).1, by show max _ (PyData.depthAll _) ≤ d; have := (t.sm hd).2; omega⟩
theorem Shows.toP {B d : Nat} (fl : Nat → Option PyData) : ∀ {xs : List D} {ps : List PyData}, Shows B d xs ps → toPs fl xs = some ps
  | _, _, .nil => rfl
  | _, _, .cons e s h t => by
    show (Vw.toP fl _).bind (fun p => (toPs fl _).map (p :: ·)) = _
    rw [e, t.toP fl]; rfl
theorem Shows.len {B d : Nat} : ∀ {xs : List D} {ps : List PyData}, Shows B d xs ps → ps.length = xs.length
  | _, _, .nil => rfl
  | _, _, .cons e s h t => congrArg (· + 1) t.len
/-- a list of such, itself to be shown -/
theorem Shows.lst {B d n C : Nat} {xs : List D} {ps : List PyData} (t : Shows B d xs ps) (hn : xs.length ≤ n) (hC : n * (B + 2) + 3 ≤ C) (hd : d ≤ 8) : (∀ fl, Vw.toP fl (.lst xs) = some (.list ps)) ∧ Sm C (.list ps) ∧ (PyData.list ps).depth ≤ d + 1 := by
  obtain ⟨a, b⟩ := t.sm (by omega)
  obtain ⟨c, e⟩ := sm_list a (by rw [t.len]; exact hn) hC (by omega)
  exact ⟨fun fl => by show (toPs fl xs).map _ = _; rw [t.toP fl]; rfl, c, by omega⟩
theorem Shows.tup {B d n C : Nat} {xs : List D} {ps : List PyData} (t : Shows B d xs ps) (hn : xs.length ≤ n) (hC : n * (B + 2) + 3 ≤ C) (hd : d ≤ 8) : (∀ fl, Vw.toP fl (.tup xs) = some (.tuple ps)) ∧ Sm C (.tuple ps) ∧ (PyData.tuple ps).depth ≤ d + 1 := by
  obtain ⟨a, b⟩ := t.sm (by omega)
  obtain ⟨c, e⟩ := sm_tuple a (by rw [t.len]; exact hn) hC (by omega)
  exact ⟨fun fl => by show (toPs fl xs).map _ = _; rw [t.toP fl]; rfl, c, by omega⟩
theorem Shows.of {B d : Nat} {α : Type} {f : α → D} {g : α → PyData} : ∀ {l : List α}, (∀ x ∈ l, (∀ fl, Vw.toP fl (f x) = some (g x)) ∧ Sm B (g x) ∧ (g x).depth ≤ d) → Shows B d (l.map f) (l.map g)
  | [], _ => .nil
  | x :: l, h => .cons (h x List.mem_cons_self).1 (h x List.mem_cons_self).2.1 (h x List.mem_cons_self).2.2 (Shows.of fun y hy => h y (List.mem_cons_of_mem _ hy))
section
variable {G G1 : Gam} {S S1 S2 : Sto} {a b : DT}
theorem dOrV_t {a b : DE} (h : a G S = some (.bl true, S1)) : dOrV a b G S = some (.bl true, S1) := by
  unfold dOrV; rw [dTst_of h]; rfl
theorem dOrV_f {a b : DE} (h : a G S = some (.bl false, S1)) : dOrV a b G S = b G S1 := by
  unfold dOrV; rw [dTst_of h]; rfl
end
section
variable {k : Nat} {M : Nat → Nat → Str} {ws : List (List Int)} {es : List Int} {ps : Pls} {tk : Tks} {S : Sto} {hs : List Nat} {i : Nat}
theorem goRun_one {h : Nat} {x : Str} (hn : nx1 k M ws es ps tk h = some x) : goRun k M ws es ps tk [h] = [⟨h, x, (af1 k M ws es ps tk h).1, (af1 k M ws es ps tk h).2⟩] := by
  unfold goRun; rw [hn]; rfl
theorem eq_own {S : Sto} {own : List Int} : opEq false (.lst (intL own)) (.lst []) S = some (.bl (decide (own = [])), S) := by
  have h := ne_own (S := S) (own := own)
  unfold opEq at h ⊢
  obtain ⟨b, hb, h⟩ := Option.map_eq_some_iff.mp h
  rw [hb]
  have h1 : D.bl (!b) = D.bl (decide (own ≠ [])) := (Prod.mk.inj h).1
  have h2 : (!b) = decide (own ≠ []) := by injection h1
  show some (D.bl b, S) = _
  have h3 : b = decide (own = []) := by
    cases b <;> by_cases h4 : own = [] <;> simp [h4] at h2 ⊢
  rw [h3]
end
end Vw
set_option maxRecDepth 100000
set_option maxHeartbeats 4000000
namespace Vw
open PySem PySem.Spec L2
section
variable {k : Nat} {M : Nat → Nat → Str} {ws : List (List Int)} {es own : List Int} {ps ps' : Pls} {tk tk' : Tks} {S : Sto} {i c : Nat} {w : List Int} {p p' q : Str × Nat} {x : Str} {e : Ev} {evs : List Ev} {xs ys : List Str} {f g : Tks → Tks}
theorem goRun_app : ∀ (hs hs2 : List Nat) (ps : Pls) (tk : Tks), (goRun k M ws es ps tk hs).length = hs.length → goRun k M ws es ps tk (hs ++ hs2) = goRun k M ws es ps tk hs ++ goRun k M ws es (endS ps tk (goRun k M ws es ps tk hs)).1 (endS ps tk (goRun k M ws es ps tk hs)).2 hs2
  | [], _, _, _, _ => rfl
  | a :: hs, hs2, ps, tk, hf => by
    unfold goRun at hf
    cases hn : nx1 k M ws es ps tk a with
    | none => rw [hn] at hf; cases hf
    | some x =>
      rw [hn] at hf
      have ih := goRun_app hs hs2 _ _ (Nat.succ.inj hf)
      have e : ∀ l, goRun k M ws es ps tk (a :: l) = ⟨a, x, (af1 k M ws es ps tk a).1, (af1 k M ws es ps tk a).2⟩ :: goRun k M ws es (af1 k M ws es ps tk a).1 (af1 k M ws es ps tk a).2 l := fun l => by
        conv => lhs; unfold goRun
        rw [hn]
      rw [List.cons_append, e, e]
      show _ :: goRun k M ws es _ _ (hs ++ hs2) = _ :: (_ ++ _)
      rw [ih]
      rfl
theorem endS_two : ∀ (a b : List Ev) (ps : Pls) (tk : Tks), endS ps tk (a ++ b) = endS (endS ps tk a).1 (endS ps tk a).2 b
  | [], _, _, _ => rfl
  | e :: a, b, _, _ => endS_two a b e.ps e.tk
def LT (k : Nat) (M : Nat → Nat → Str) (ws : List (List Int)) (es : List Int) (c : Nat) (p : Str × Nat) (xs : List Str) (p' : Str × Nat) (f : Tks → Tks) : Prop :=
  ∀ ps tk, StP k M ws ps tk → Alone k c ps p → ∃ evs, goRun k M ws es ps tk (List.replicate xs.length c) = evs ∧ evs.length = xs.length ∧ evs.map (·.x) = xs ∧ (∀ e ∈ evs, e.i = c ∧ ∃ p, Alone k c e.ps p) ∧
    (endS ps tk evs).2 = f tk ∧ StP k M ws (endS ps tk evs).1 (endS ps tk evs).2 ∧ Alone k c (endS ps tk evs).1 p'
theorem LT.comp {p2 : Str × Nat} (h1 : LT k M ws es c p xs p' f) (h2 : LT k M ws es c p' ys p2 g) : LT k M ws es c p (xs ++ ys) p2 (fun tk => g (f tk)) := by
  intro ps tk s a
  obtain ⟨e1, g1, l1, x1, o1, t1, s1, a1⟩ := h1 ps tk s a
  obtain ⟨e2, g2, l2, x2, o2, t2, s2, a2⟩ := h2 _ _ s1 a1
  have hg : goRun k M ws es ps tk (List.replicate (xs ++ ys).length c) = e1 ++ e2 := by
    rw [List.length_append, ← List.replicate_append_replicate, goRun_app _ _ _ _ (by rw [g1, l1, List.length_replicate]), g1, g2]
  refine ⟨e1 ++ e2, hg, by rw [List.length_append, List.length_append, l1, l2], by rw [List.map_append, x1, x2], fun e he => ?_, ?_, ?_, ?_⟩
  · rcases List.mem_append.mp he with h | h
    · exact o1 e h
    · exact o2 e h
  · rw [endS_two, t2, t1]
  · rw [endS_two]; exact s2
  · rw [endS_two]; exact a2
theorem LT.step (L : Lk k M ws es) (h2 : 2 ≤ k) (hc : c < k) (hw : ws[c]? = some w)
    (h : ∀ ps tk j q, Alone k c ps p → (p.1 ∈ kinds4 → w[p.2]? = some ((j : Nat) : Int) ∧ j < k ∧ ps[j]? = some q) → nextW k M es ps tk c p j q = some x ∧ placeS k M es ps tk w c p j q = p') : LT k M ws es c p [x] p' (fun tk => tokS M tk w c p) := by
  intro ps tk s a
  obtain ⟨a1, a2, a3⟩ := at1 L s hc
  have ew : wAt ws c = w := getD_at hw
  have ep : pAt ps c = p := getD_at a.1
  rw [ew, ep] at a3
  obtain ⟨n1, n2⟩ := h ps tk (jAt ws ps c) (pAt ps (jAt ws ps c)) a a3
  have hn : nx1 k M ws es ps tk c = some x := by unfold nx1; rw [ep]; exact n1
  have ha : af1 k M ws es ps tk c = (ps.set c p', tokS M tk w c p) := by rw [af_eq L s hc hn, ew, ep, n2]
  have al : Alone k c (ps.set c p') p' := ⟨by rw [List.getElem?_set_self (List.getElem?_eq_some_iff.mp a.1).1], fun j hj hne => by
    rw [List.getElem?_set_ne (fun h => hne h.symm)]
    exact a.2 j hj hne⟩
  have sp := af_stp L h2 s hc
  rw [ha] at sp
  refine ⟨[⟨c, x, ps.set c p', tokS M tk w c p⟩], ?_, rfl, rfl, fun e he => ?_, rfl, sp, al⟩
  · show goRun k M ws es ps tk [c] = _
    rw [goRun_one hn, ha]
  · rw [List.mem_singleton.mp he]; exact ⟨rfl, p', al⟩
end
end Vw
set_option maxRecDepth 100000
set_option maxHeartbeats 4000000
namespace Vw
open PySem PySem.Spec L2
theorem hold_hand {tk : Tks} {a j x y : Nat} : hold (handT tk a j) x y = if x = min a j ∧ y = max a j then (hold tk x y).map fun _ => (j : Int) else hold tk x y := by
  unfold hold handT
  induction tk with
  | nil => by_cases h : x = min a j ∧ y = max a j <;> simp [h]
  | cons t tk ih =>
    by_cases ht : isTok x y t = true
    · have hxy : t.1.1 = x ∧ t.1.2 = y := of_decide_eq_true ht
      have h1 : isTok x y (t.1, (if isTok (min a j) (max a j) t = true then j else t.2)) = true := ht
      rw [List.map_cons, List.filter_cons, List.filter_cons, if_pos h1, if_pos ht, List.map_cons, List.map_cons, ih]
      by_cases h : x = min a j ∧ y = max a j
      · rw [if_pos h, if_pos h]
        have : isTok (min a j) (max a j) t = true := decide_eq_true ⟨hxy.1.trans h.1, hxy.2.trans h.2⟩
        simp [this]
      · rw [if_neg h, if_neg h]
        have : isTok (min a j) (max a j) t = false := decide_eq_false fun q => h ⟨hxy.1.symm.trans q.1, hxy.2.symm.trans q.2⟩
        simp [this]
    · have h1 : ¬ isTok x y (t.1, (if isTok (min a j) (max a j) t = true then j else t.2)) = true := ht
      rw [List.map_cons, List.filter_cons, List.filter_cons, if_neg h1, if_neg ht]
      exact ih
def wI (ws : List (List Int)) (h i : Nat) : Nat := (wAt ws i).idxOf (h : Int)
def qI (M : Nat → Nat → Str) (ws : List (List Int)) (h i : Nat) : Nat := (evL M (wAt ws i) i).idxOf (h : Int)
def tokB (tk : Tks) (h i : Nat) : Bool := headIs (hold tk (min i h) (max i h)) (i : Int)
section
variable {k : Nat} {M : Nat → Nat → Str} {ws : List (List Int)} {es : List Int} {ps : Pls} {tk : Tks} {h a i : Nat} {x : Str}
theorem tok_other (hia : i ≠ a) (hha : h ≠ a) {w : List Int} {P : Str × Nat} : tokB (tokS M tk w a P) h i = tokB tk h i := by
  unfold tokS
  split
  · unfold tokB
    rw [hold_hand, if_neg (by omega)]
  · rfl
theorem wAt_facts (L : Lk k M ws es) (hi : i < k) (hh : h < k) (hne : h ≠ i) : (wAt ws i).Nodup ∧ (h : Int) ∈ wAt ws i ∧ wI ws h i < (wAt ws i).length ∧ (wAt ws i).length + 1 = k := by
  have hw := ways_get L hi
  have hp := L.ways.2 i _ hw
  have hm : (h : Int) ∈ wAt ws i := hp.mem_iff.mpr (mem_others hh hne)
  exact ⟨hp.nodup_iff.mpr others_nodup, hm, List.idxOf_lt_length_of_mem hm, L.wlen hi hw⟩
theorem early_none (L : Lk k M ws es) (s : SafeP k M es) (ha : a < k) (he : (a : Int) ∈ es) : evL M (wAt ws a) a = [] := by
  unfold evL
  rw [List.filter_eq_nil_iff]
  intro z hz q
  obtain ⟨j, rfl, hj, hne⟩ := others_mem ((L.ways.2 a _ (ways_get L ha)).mem_iff.mp hz)
  rw [Int.toNat_natCast] at q
  exact (s a j ha hj hne).2.2 ⟨of_decide_eq_true q, he⟩
theorem begun_wish (L : Lk k M ws es) (s : SafeP k M es) (ha : a < k) : begunP es (evL M (wAt ws a) a) a = (("wish" : Str), 0) := by
  unfold begunP
  rw [if_neg]
  intro q
  have q := of_decide_eq_true q
  exact q.2 (early_none L s ha q.1)
/-- a step of hand h itself -/
theorem own_ok (L : Lk k M ws es) (s : SafeP k M es) (st : StP k M ws ps tk) (na : (pAt ps h).1 ≠ ("anew" : Str)) (hh : h < k) (hn : nx1 k M ws es ps tk h = some x) :
    let P := pAt ps h
    let P' := placeS k M es ps tk (wAt ws h) h P (jAt ws ps h) (pAt ps (jAt ws ps h))
    let tk' := tokS M tk (wAt ws h) h P
    (x = ("raise" : Str) → tk' = tk) ∧ (x = ("enter" : Str) → P.1 = ("look" : Str)) ∧
      (x ≠ ("raise" : Str) → (P'.1 = ("hand" : Str) → P.1 = ("hand" : Str)) ∧ (P'.1 = ("look" : Str) → P.1 = ("hand" : Str) ∨ (P.1 = ("look" : Str) ∧ tk' = tk))) ∧ P'.1 ≠ ("anew" : Str) := by
  intro P P' tk'
  obtain ⟨hw, hp, hj⟩ := at1 L st hh
  have o := st.at_ h _ _ hw hp
  have hn' : nextW k M es ps tk h P (jAt ws ps h) (pAt ps (jAt ws ps h)) = some x := hn
  have same : P.1 ≠ ("hand" : Str) → tk' = tk := fun q => by
    show tokS M tk (wAt ws h) h P = _
    unfold tokS
    rw [if_neg q]
  have rest : ∀ {n : Nat} {w : Str}, P' = (w, n) → w ≠ ("look" : Str) → w ≠ ("hand" : Str) → w ≠ ("anew" : Str) → x ≠ ("raise" : Str) → (x = ("enter" : Str) → P.1 = ("look" : Str)) → (x = ("raise" : Str) → tk' = tk) ∧ (x = ("enter" : Str) → P.1 = ("look" : Str)) ∧
      (x ≠ ("raise" : Str) → (P'.1 = ("hand" : Str) → P.1 = ("hand" : Str)) ∧ (P'.1 = ("look" : Str) → P.1 = ("hand" : Str) ∨ (P.1 = ("look" : Str) ∧ tk' = tk))) ∧ P'.1 ≠ ("anew" : Str) := fun {n w} e h1 h2 h3 h4 h5 =>
    ⟨fun q => absurd q h4, h5, fun _ => ⟨fun q => by rw [e] at q; exact absurd q h2, fun q => by rw [e] at q; exact absurd q h1⟩, by rw [e]; exact h3⟩
  rcases step_cases (w := wAt ws h) o.kind hn' with ⟨e, hx, hr⟩ | ⟨e, hx, hr⟩ | ⟨e, hx, hr⟩ | ⟨e, hx, hr⟩ | ⟨e, hx, hr⟩ | ⟨e, hx, hr⟩ | ⟨e, hx, h1, hr⟩ | ⟨e, hx, h1, hr⟩ | ⟨e, hx, h1, hr⟩ | ⟨e, hx, h1, hr⟩ | ⟨e, hx, hr⟩
  · exact rest (hr.trans (begun_wish L s hh)) (by decide) (by decide) (by decide) (by rw [hx]; decide) (fun q => by rw [hx] at q; exact absurd q (by decide))
  · refine ⟨fun _ => same (by rw [show P.1 = _ from e]; decide), fun q => by rw [hx] at q; exact absurd q (by decide), fun q => absurd hx q, ?_⟩
    rw [show P' = _ from hr]
    unfold raisedP
    split
    · show ("hand" : Str) ≠ "anew"; decide
    · show ("look" : Str) ≠ "anew"; decide
  · exact rest hr (by decide) (by decide) (by decide) (by rw [hx]; decide) (fun q => by rw [hx] at q; exact absurd q (by decide))
  · refine ⟨fun q => by rw [hx] at q; exact absurd q (by decide), fun q => by rw [hx] at q; exact absurd q (by decide), fun _ => ⟨fun _ => e, fun _ => .inl e⟩, ?_⟩
    rw [show P' = _ from hr]
    unfold handP
    split
    · show ("hand" : Str) ≠ "anew"; decide
    · split
      · show ("wish" : Str) ≠ "anew"; decide
      · show ("look" : Str) ≠ "anew"; decide
  · exact rest hr (by decide) (by decide) (by decide) (by rw [hx]; decide) (fun q => by rw [hx] at q; exact absurd q (by decide))
  · obtain ⟨hj1, hj2, _⟩ := hj (by rw [e]; decide)
    have hns : M h (jAt ws ps h) ≠ ("slip" : Str) := by
      obtain ⟨m, e1, hm2, hne2⟩ := others_mem ((L.ways.2 h _ (ways_get L hh)).mem_iff.mp (List.mem_of_getElem? hj1))
      have : jAt ws ps h = m := by omega
      rw [this]
      exact (s h m hh hm2 hne2).2.1
    rw [if_neg (fun q => hns (of_decide_eq_true q)), begun_wish L s hh] at hr
    exact rest hr (by decide) (by decide) (by decide) (by rw [hx]; decide) (fun q => by rw [hx] at q; exact absurd q (by decide))
  · exact absurd e na
  · exact absurd e na
  · exact rest hr (by decide) (by decide) (by decide) (by rw [hx]; decide) (fun _ => e)
  · exact ⟨fun q => by rw [hx] at q; exact absurd q (by decide), fun q => by rw [hx] at q; exact absurd q (by decide), fun _ => ⟨fun q => by rw [show P' = _ from hr] at q; exact absurd q (by show ¬ ("look" : Str) = "hand"; decide), fun _ => .inr ⟨e, same (by rw [show P.1 = _ from e]; decide)⟩⟩, by rw [show P' = _ from hr]; show ("look" : Str) ≠ "anew"; decide⟩
  · exact rest hr (by decide) (by decide) (by decide) (by rw [hx]; decide) (fun q => by rw [hx] at q; exact absurd q (by decide))
end
section
variable {k : Nat} {M : Nat → Nat → Str} {ws : List (List Int)} {es : List Int} {h : Nat}
theorem pAt_set {ps : Pls} {a i : Nat} {P : Str × Nat} (ha : a < ps.length) : pAt (ps.set a P) i = if i = a then P else pAt ps i := by
  unfold pAt
  rw [List.getD_eq_getElem?_getD, List.getD_eq_getElem?_getD]
  by_cases q : i = a
  · subst q
    rw [if_pos rfl, List.getElem?_set_self ha]; rfl
  · rw [if_neg q, List.getElem?_set_ne (fun z => q z.symm)]
end
end Vw
set_option maxRecDepth 100000
set_option maxHeartbeats 4000000
namespace Vw
open PySem PySem.Spec L2
end Vw
set_option maxRecDepth 100000
set_option maxHeartbeats 4000000
namespace Vw
open PySem PySem.Spec L2
end Vw
set_option maxRecDepth 100000
set_option maxHeartbeats 4000000
namespace Vw
open PySem PySem.Spec L2
/-- a hand goes on till its place's word is g -/
inductive Gw (k : Nat) (M : Nat → Nat → Str) (ws : List (List Int)) (es : List Int) (c : Nat) (g : Str) : Nat → Pls → Tks → Pls → Tks → Prop
  | nil {ps : Pls} {tk : Tks} : Gw k M ws es c g 0 ps tk ps tk
  | step {n : Nat} {ps : Pls} {tk : Tks} {x : Str} {ps' : Pls} {tk' : Tks} : (pAt ps c).1 ≠ g → nx1 k M ws es ps tk c = some x → Gw k M ws es c g n (af1 k M ws es ps tk c).1 (af1 k M ws es ps tk c).2 ps' tk' → Gw k M ws es c g (n + 1) ps tk ps' tk'
section
variable {k : Nat} {M : Nat → Nat → Str} {ws : List (List Int)} {es : List Int} {ps p1 p2 ps' : Pls} {tk t1 t2 tk' : Tks} {S : Sto} {c j n m t s : Nat} {g x : Str} {p q : Str × Nat}
theorem Gw.trans (a : Gw k M ws es c g n ps tk p1 t1) (b : Gw k M ws es c g m p1 t1 p2 t2) : Gw k M ws es c g (m + n) ps tk p2 t2 := by
  induction a with
  | nil => exact b
  | step h1 h2 _ ih => exact .step h1 h2 (ih b)
theorem goRun_cons {hs : List Nat} (h : nx1 k M ws es ps tk c = some x) : goRun k M ws es ps tk (c :: hs) = ⟨c, x, (af1 k M ws es ps tk c).1, (af1 k M ws es ps tk c).2⟩ :: goRun k M ws es (af1 k M ws es ps tk c).1 (af1 k M ws es ps tk c).2 hs := by
  conv => lhs; unfold goRun
  rw [h]
theorem Gw.run (a : Gw k M ws es c g n ps tk p1 t1) : ∀ (hs : List Nat), goRun k M ws es ps tk (List.replicate n c ++ hs) = goRun k M ws es ps tk (List.replicate n c) ++ goRun k M ws es p1 t1 hs ∧ (goRun k M ws es ps tk (List.replicate n c)).length = n ∧ endS ps tk (goRun k M ws es ps tk (List.replicate n c)) = (p1, t1) := by
  induction a with
  | nil => exact fun hs => ⟨rfl, rfl, rfl⟩
  | step h1 h2 _ ih =>
    intro hs
    obtain ⟨i1, i2, i3⟩ := ih hs
    rw [List.replicate_succ, List.cons_append, goRun_cons h2, goRun_cons h2]
    refine ⟨?_, ?_, ?_⟩
    · rw [i1]; rfl
    · rw [List.length_cons, i2]
    · exact i3
/-- place and tokens behind some steps -/
def Gp (k : Nat) (M : Nat → Nat → Str) (ws : List (List Int)) (es : List Int) (c : Nat) (g : Str) (ps : Pls) (n : Nat) (p : Str × Nat) (tk : Tks) (p' : Str × Nat) (tk' : Tks) : Prop :=
  Gw k M ws es c g n (ps.set c p) tk (ps.set c p') tk'
theorem Gp.trans {p p' p2 : Str × Nat} (a : Gp k M ws es c g ps n p tk p' t1) (b : Gp k M ws es c g ps m p' t1 p2 t2) : Gp k M ws es c g ps (m + n) p tk p2 t2 := Gw.trans a b
theorem Gp.nil {p : Str × Nat} : Gp k M ws es c g ps 0 p tk p tk := Gw.nil
inductive Wy (k : Nat) (M : Nat → Nat → Str) (ws : List (List Int)) (es : List Int) : Pls → Tks → List (Nat × (Str × Nat)) → List Nat → Pls → Tks → Prop
  | nil {ps : Pls} {tk : Tks} : Wy k M ws es ps tk [] [] ps tk
  | cons {c n : Nat} {p : Str × Nat} {ps : Pls} {tk : Tks} {p1 : Pls} {t1 : Tks} {l : List (Nat × (Str × Nat))} {hs : List Nat} {p2 : Pls} {t2 : Tks} : c < k → n ≤ 60 → Gw k M ws es c p.1 n ps tk p1 t1 → pAt p1 c = p → Wy k M ws es p1 t1 l hs p2 t2 → Wy k M ws es ps tk ((c, p) :: l) (List.replicate n c ++ hs) p2 t2
theorem Wy.len {l : List (Nat × (Str × Nat))} {hs : List Nat} (a : Wy k M ws es ps tk l hs p2 t2) : hs.length ≤ 60 * l.length ∧ ∀ h ∈ hs, h < k := by
  induction a with
  | nil => exact ⟨Nat.zero_le _, fun h hh => by cases hh⟩
  | cons hc hn _ _ _ ih =>
    refine ⟨by rw [List.length_append, List.length_replicate, List.length_cons]; omega, fun h hh => ?_⟩
    rcases List.mem_append.mp hh with z | z
    · rw [List.eq_of_mem_replicate z]; exact hc
    · exact ih.2 h z
theorem Wy.run {l : List (Nat × (Str × Nat))} {hs : List Nat} (a : Wy k M ws es ps tk l hs p2 t2) : (goRun k M ws es ps tk hs).length = hs.length ∧ endS ps tk (goRun k M ws es ps tk hs) = (p2, t2) := by
  induction a with
  | nil => exact ⟨rfl, rfl⟩
  | cons hc hn g e _ ih =>
    obtain ⟨a1, a2, a3⟩ := g.run _
    rw [a1]
    refine ⟨by rw [List.length_append, List.length_append, a2, ih.1, List.length_replicate], ?_⟩
    rw [endS_two, a3]
    exact ih.2
end
end Vw
set_option maxRecDepth 100000
set_option maxHeartbeats 4000000
namespace Vw
open PySem PySem.Spec L2
end Vw
set_option maxRecDepth 100000
set_option maxHeartbeats 4000000
namespace Vw
open PySem PySem.Spec L2
end Vw
set_option maxRecDepth 100000
set_option maxHeartbeats 4000000
namespace Vw
open PySem PySem.Spec L2
/-- hand i has looked past hand h -/
def clr (ws : List (List Int)) (h i : Nat) (P : Str × Nat) : Prop := P.1 = ("in" : Str) ∨ (P.1 = ("look" : Str) ∧ wI ws h i < P.2)
/-- hand i has still to hand to h before he looks -/
def pnd (M : Nat → Nat → Str) (ws : List (List Int)) (h i : Nat) (P : Str × Nat) : Prop := P.1 = ("rest" : Str) ∨ P.1 = ("wish" : Str) ∨ P.1 = ("low" : Str) ∨ (P.1 = ("hand" : Str) ∧ P.2 ≤ qI M ws h i)
def Ap (M : Nat → Nat → Str) (ws : List (List Int)) (ps : Pls) (tk : Tks) (i j : Nat) : Prop :=
  clr ws j i (pAt ps i) → ¬ clr ws i j (pAt ps j) ∧ (M j i = wEven → tokB tk i j = false ∨ pnd M ws i j (pAt ps j))
section
variable {k : Nat} {M : Nat → Nat → Str} {ws : List (List Int)} {es : List Int} {ps : Pls} {tk : Tks} {h a i j : Nat} {x : Str}
theorem pnd_nlook {P : Str × Nat} (p : pnd M ws h i P) (e : P.1 = ("look" : Str)) : False := by
  rcases p with q | q | q | ⟨q, _⟩ <;> · rw [e] at q; exact absurd q (by decide)
theorem look_key (L : Lk k M ws es) (s : SafeP k M es) (st : StP k M ws ps tk) (ha : a < k) (hh : h < k) (hne : h ≠ a) (hn : nx1 k M ws es ps tk a = some x) (e : (pAt ps a).1 = ("look" : Str)) (hx : x ≠ ("yield" : Str)) (q : (pAt ps a).2 = wI ws h a) :
    flagS es (pAt ps h).1 h = ("down" : Str) ∨ (M a h = wEven ∧ flagS es (pAt ps h).1 h = ("up" : Str) ∧ tokB tk h a = true) := by
  obtain ⟨hw, hp, hj⟩ := at1 L st ha
  obtain ⟨nd, hm, hl, hwl⟩ := wAt_facts L ha hh hne
  obtain ⟨hj1, hj2, _⟩ := hj (by rw [e]; decide)
  have hn' : nextW k M es ps tk a (pAt ps a) (jAt ws ps a) (pAt ps (jAt ws ps a)) = some x := hn
  have g : goesS M es ps tk a (jAt ws ps a) (pAt ps (jAt ws ps a)) = true := by
    unfold nextW at hn'
    rw [if_pos e] at hn'
    cases hg : goesS M es ps tk a (jAt ws ps a) (pAt ps (jAt ws ps a)) with
    | true => rfl
    | false =>
      rw [hg, if_neg (by decide)] at hn'
      split at hn'
      · exact absurd (Option.some.inj hn').symm hx
      · cases hn'
  have at_h : jAt ws ps a = h := by
    have gi := List.getElem_idxOf hl
    have : (wAt ws a)[(pAt ps a).2]? = some (h : Int) := by
      rw [q]
      exact (List.getElem?_eq_getElem hl).trans (congrArg some gi)
    rw [hj1] at this
    have := Option.some.inj this
    omega
  by_cases nf : flagS es (pAt ps h).1 h = ("down" : Str)
  · exact .inl nf
  · rw [at_h] at g
    unfold goesS at g
    rw [decide_eq_false (show ¬ M a h = ("pass" : Str) from (s a h ha hh hne).1), decide_eq_false nf, Bool.false_or, Bool.false_or, Bool.and_eq_true, Bool.and_eq_true] at g
    exact .inr ⟨of_decide_eq_true g.1, of_decide_eq_true g.2.1, g.2.2⟩
theorem clr_up {P : Str × Nat} (c : clr ws h i P) : flagS es P.1 i = ("up" : Str) := by
  unfold flagS
  rw [if_pos]
  rcases c with q | ⟨q, _⟩ <;> · rw [q]; decide
/-- how one comes past another -/
theorem clr_new (L : Lk k M ws es) (s : SafeP k M es) (st : StP k M ws ps tk) (na : (pAt ps a).1 ≠ ("anew" : Str)) (ha : a < k) (hh : h < k) (hne : h ≠ a) (hn : nx1 k M ws es ps tk a = some x)
    (c : clr ws h a (placeS k M es ps tk (wAt ws a) a (pAt ps a) (jAt ws ps a) (pAt ps (jAt ws ps a)))) :
    (pAt ps a).1 = ("look" : Str) ∧ x ≠ ("yield" : Str) ∧ (clr ws h a (pAt ps a) ∨ (pAt ps a).2 = wI ws h a) := by
  obtain ⟨hw, hp, hj⟩ := at1 L st ha
  have o := st.at_ a _ _ hw hp
  obtain ⟨nd, hm, hl, hwl⟩ := wAt_facts L ha hh hne
  have hn' : nextW k M es ps tk a (pAt ps a) (jAt ws ps a) (pAt ps (jAt ws ps a)) = some x := hn
  have no : ∀ {w : Str} {n : Nat}, clr ws h a (w, n) → w ≠ ("in" : Str) → (w ≠ ("look" : Str) ∨ n = 0) → False := fun {w n} c h1 h2 => by
    rcases c with q | ⟨q, z⟩
    · exact h1 q
    · rcases h2 with h2 | h2
      · exact h2 q
      · have z' : wI ws h a < n := z
        omega
  rcases step_cases (w := wAt ws a) o.kind hn' with ⟨e, hx, hr⟩ | ⟨e, hx, hr⟩ | ⟨e, hx, hr⟩ | ⟨e, hx, hr⟩ | ⟨e, hx, hr⟩ | ⟨e, hx, hr⟩ | ⟨e, hx, h1, hr⟩ | ⟨e, hx, h1, hr⟩ | ⟨e, hx, h1, hr⟩ | ⟨e, hx, h1, hr⟩ | ⟨e, hx, hr⟩ <;> rw [hr] at c
  · rw [begun_wish L s ha] at c; exact (no c (by decide) (.inl (by decide))).elim
  · unfold raisedP at c
    split at c
    · exact (no c (by decide) (.inl (by decide))).elim
    · exact (no c (by decide) (.inr rfl)).elim
  · exact (no c (by decide) (.inl (by decide))).elim
  · unfold handP at c
    split at c
    · exact (no c (by decide) (.inl (by decide))).elim
    · split at c
      · exact (no c (by decide) (.inl (by decide))).elim
      · exact (no c (by decide) (.inr rfl)).elim
  · exact (no c (by decide) (.inl (by decide))).elim
  · split at c
    · exact (no c (by decide) (.inl (by decide))).elim
    · rw [begun_wish L s ha] at c; exact (no c (by decide) (.inl (by decide))).elim
  · exact absurd e na
  · exact absurd e na
  · refine ⟨e, by rw [hx]; decide, ?_⟩
    by_cases q : (pAt ps a).2 = wI ws h a
    · exact .inr q
    · exact .inl (.inr ⟨e, by omega⟩)
  · refine ⟨e, by rw [hx]; decide, ?_⟩
    rcases c with z | ⟨_, z⟩
    · exact absurd z (by show ¬ ("look" : Str) = "in"; decide)
    · have z' : wI ws h a < (pAt ps a).2 + 1 := z
      by_cases q : (pAt ps a).2 = wI ws h a
      · exact .inr q
      · exact .inl (.inr ⟨e, by omega⟩)
  · exact (no c (by decide) (.inl (by decide))).elim
theorem down_pnd (L : Lk k M ws es) (s : SafeP k M es) (st : StP k M ws ps tk) (na : (pAt ps j).1 ≠ ("anew" : Str)) (hj : j < k) (f : flagS es (pAt ps j).1 j = ("down" : Str)) : pnd M ws i j (pAt ps j) := by
  obtain ⟨hw, hp, _⟩ := at1 L st hj
  have o := st.at_ j _ _ hw hp
  have up : (pAt ps j).1 ∈ upW → False := fun q => by
    unfold flagS at f
    rw [if_pos q] at f
    exact absurd f (by decide)
  rcases kinds_or o.kind with e | e | e | e | e | e | e | e
  · exact .inl e
  · exact .inr (.inl e)
  · exact (up (by rw [e]; decide)).elim
  · have hl := o.hand e
    have nh : ¬ (j : Int) ∈ es := fun z => by rw [early_none L s hj z] at hl; cases hl
    unfold flagS at f
    rw [e, if_neg (by decide), if_pos ⟨rfl, nh⟩] at f
    exact absurd f (by decide)
  · exact (up (by rw [e]; decide)).elim
  · exact (up (by rw [e]; decide)).elim
  · exact .inr (.inr (.inl e))
  · exact absurd e na
theorem tok_one (hne : i ≠ j) (t : tokB tk j i = true) : tokB tk i j = false := by
  unfold tokB at t ⊢
  rw [Nat.min_comm, Nat.max_comm] at t
  cases hh : hold tk (min j i) (max j i) with
  | nil => rfl
  | cons z l =>
    rw [hh] at t
    have t' : z = (i : Int) := of_decide_eq_true t
    show decide (z = (j : Int)) = false
    exact decide_eq_false (by omega)
/-- what hand j does while i is past him -/
theorem pnd_step (L : Lk k M ws es) (s : SafeP k M es) (st : StP k M ws ps tk) (na : (pAt ps j).1 ≠ ("anew" : Str)) (hj : j < k) (hi : i < k) (hne : i ≠ j) (hn : nx1 k M ws es ps tk j = some x) (he : M j i = wEven)
    (q : tokB tk i j = false ∨ pnd M ws i j (pAt ps j)) :
    tokB (tokS M tk (wAt ws j) j (pAt ps j)) i j = false ∨ pnd M ws i j (placeS k M es ps tk (wAt ws j) j (pAt ps j) (jAt ws ps j) (pAt ps (jAt ws ps j))) := by
  obtain ⟨hw, hp, hjj⟩ := at1 L st hj
  have o := st.at_ j _ _ hw hp
  obtain ⟨nd, hm, hl, hwl⟩ := wAt_facts L hj hi hne
  have hmo : (i : Int) ∈ evL M (wAt ws j) j := List.mem_filter.mpr ⟨hm, by rw [Int.toNat_natCast]; exact decide_eq_true he⟩
  have hn' : nextW k M es ps tk j (pAt ps j) (jAt ws ps j) (pAt ps (jAt ws ps j)) = some x := hn
  have ne : ¬ (j : Int) ∈ es := fun q => by rw [early_none L s hj q] at hmo; cases hmo
  have same : (pAt ps j).1 ≠ ("hand" : Str) → tokS M tk (wAt ws j) j (pAt ps j) = tk := fun q => by unfold tokS; rw [if_neg q]
  by_cases eh : (pAt ps j).1 = ("hand" : Str)
  · have hlt := o.hand eh
    have ho := List.idxOf_lt_length_of_mem hmo
    have go := List.getElem_idxOf ho
    have ndo : (evL M (wAt ws j) j).Nodup := nd.filter _
    obtain ⟨j0, hj0⟩ : ∃ j0 : Nat, (evL M (wAt ws j) j)[(pAt ps j).2] = (j0 : Int) := by
      obtain ⟨m, e1, _⟩ := others_mem ((L.ways.2 j _ (ways_get L hj)).mem_iff.mp (List.mem_filter.mp (List.getElem_mem hlt)).1)
      exact ⟨m, e1⟩
    have etk : tokS M tk (wAt ws j) j (pAt ps j) = handT tk j j0 := by
      unfold tokS
      rw [if_pos eh, List.getD_eq_getElem?_getD, List.getElem?_eq_getElem hlt]
      show handT tk j ((evL M (wAt ws j) j)[(pAt ps j).2]).toNat = _
      rw [hj0, Int.toNat_natCast]
    by_cases hq : (pAt ps j).2 = qI M ws i j
    · have hji : j0 = i := by
        have : (evL M (wAt ws j) j)[(pAt ps j).2] = (i : Int) := by
          have hq' : (pAt ps j).2 = (evL M (wAt ws j) j).idxOf (i : Int) := hq
          simp only [hq']
          exact go
        rw [hj0] at this; omega
      left
      unfold tokB
      rw [etk, hold_hand, hji, if_pos ⟨rfl, rfl⟩]
      cases hold tk (min j i) (max j i) with
      | nil => rfl
      | cons t l => show decide ((i : Int) = (j : Int)) = false; exact decide_eq_false (by omega)
    · have hji : j0 ≠ i := fun q => by
        subst q
        have : (pAt ps j).2 = (evL M (wAt ws j) j).idxOf (j0 : Int) := (List.getElem_inj ndo).mp (hj0.trans go.symm)
        exact hq this
      have ht : tokB (tokS M tk (wAt ws j) j (pAt ps j)) i j = tokB tk i j := by
        unfold tokB
        rw [etk, hold_hand, if_neg (by omega)]
      rcases q with q | q
      · exact .inl (ht.trans q)
      · right
        rcases q with q | q | q | ⟨_, q⟩
        · rw [eh] at q; exact absurd q (by decide)
        · rw [eh] at q; exact absurd q (by decide)
        · rw [eh] at q; exact absurd q (by decide)
        have hqo : qI M ws i j < (evL M (wAt ws j) j).length := ho
        rcases step_cases (w := wAt ws j) o.kind hn' with ⟨e, hx, hr⟩ | ⟨e, hx, hr⟩ | ⟨e, hx, hr⟩ | ⟨e, hx, hr⟩ | ⟨e, hx, hr⟩ | ⟨e, hx, hr⟩ | ⟨e, hx, h1, hr⟩ | ⟨e, hx, h1, hr⟩ | ⟨e, hx, h1, hr⟩ | ⟨e, hx, h1, hr⟩ | ⟨e, hx, hr⟩
        all_goals try (exfalso; rw [eh] at e; exact absurd e (by decide))
        rw [hr]
        unfold handP
        rw [if_pos (decide_eq_true (by omega))]
        exact .inr (.inr (.inr ⟨rfl, by show (pAt ps j).2 + 1 ≤ _; omega⟩))
  · rw [same eh]
    rcases q with q | q
    · exact .inl q
    · right
      have hns : ∀ m, m = jAt ws ps j → (pAt ps j).1 ∈ kinds4 → M j m ≠ ("slip" : Str) := fun m em hk => by
        obtain ⟨hj1, hj2, _⟩ := hjj hk
        obtain ⟨m, e1, hm2, hne2⟩ := others_mem ((L.ways.2 j _ (ways_get L hj)).mem_iff.mp (List.mem_of_getElem? hj1))
        have : jAt ws ps j = m := by omega
        rw [em, this]
        exact (s j m hj hm2 hne2).2.1
      rcases step_cases (w := wAt ws j) o.kind hn' with ⟨e, hx, hr⟩ | ⟨e, hx, hr⟩ | ⟨e, hx, hr⟩ | ⟨e, hx, hr⟩ | ⟨e, hx, hr⟩ | ⟨e, hx, hr⟩ | ⟨e, hx, h1, hr⟩ | ⟨e, hx, h1, hr⟩ | ⟨e, hx, h1, hr⟩ | ⟨e, hx, h1, hr⟩ | ⟨e, hx, hr⟩
      · rw [hr, begun_wish L s hj]; exact .inr (.inl rfl)
      · rw [hr]
        unfold raisedP
        rw [if_pos (decide_eq_true ⟨fun z => (by rw [z] at hmo; cases hmo), ne⟩)]
        exact .inr (.inr (.inr ⟨rfl, Nat.zero_le _⟩))
      · exfalso; rcases q with q | q | q | ⟨q, _⟩ <;> · rw [e] at q; exact absurd q (by decide)
      · exact absurd e eh
      · exfalso; rcases q with q | q | q | ⟨q, _⟩ <;> · rw [e] at q; exact absurd q (by decide)
      · rw [hr, if_neg (fun z => hns _ rfl (by rw [e]; decide) (of_decide_eq_true z)), begun_wish L s hj]
        exact .inr (.inl rfl)
      · exact absurd e na
      · exact absurd e na
      · exact (pnd_nlook q e).elim
      · exact (pnd_nlook q e).elim
      · exact (pnd_nlook q e).elim
theorem ap_step (L : Lk k M ws es) (s : SafeP k M es) (st : StP k M ws ps tk) (na : ∀ i, i < k → (pAt ps i).1 ≠ ("anew" : Str)) (ap : ∀ i j, i < k → j < k → i ≠ j → Ap M ws ps tk i j) (ha : a < k) (hn : nx1 k M ws es ps tk a = some x) (hi : i < k) (hj : j < k) (hne : i ≠ j) :
    Ap M ws (ps.set a (placeS k M es ps tk (wAt ws a) a (pAt ps a) (jAt ws ps a) (pAt ps (jAt ws ps a)))) (tokS M tk (wAt ws a) a (pAt ps a)) i j := by
  have hal : a < ps.length := by rw [st.st.len]; exact ha
  unfold Ap
  rw [pAt_set hal (i := i), pAt_set hal (i := j)]
  by_cases hia : i = a
  · subst hia
    rw [if_pos rfl, if_neg (fun q => hne q.symm)]
    intro c
    obtain ⟨e, hx, hq⟩ := clr_new L s st (na i hi) hi hj (fun q => hne q.symm) hn c
    have et : tokS M tk (wAt ws i) i (pAt ps i) = tk := by unfold tokS; rw [if_neg (by rw [e]; decide)]
    rw [et]
    rcases hq with hq | hq
    · exact ap i j hi hj hne hq
    · rcases look_key L s st hi hj (fun q => hne q.symm) hn e hx hq with f | ⟨he, f, ht⟩
      · refine ⟨fun c2 => ?_, fun _ => .inr (down_pnd L s st (na j hj) hj f)⟩
        rw [clr_up (es := es) c2] at f
        exact absurd f (by decide)
      · refine ⟨fun c2 => ?_, fun _ => .inl (tok_one hne ht)⟩
        rcases (ap j i hj hi (fun q => hne q.symm) c2).2 he with z | z
        · rw [ht] at z; cases z
        · exact pnd_nlook z e
  · rw [if_neg hia]
    by_cases hja : j = a
    · subst hja
      rw [if_pos rfl]
      intro c
      obtain ⟨n1, n2⟩ := ap i j hi hj hne c
      refine ⟨fun c2 => ?_, fun he => pnd_step L s st (na j hj) hj hi hne hn he (n2 he)⟩
      obtain ⟨e, hx, hq⟩ := clr_new L s st (na j hj) hj hi hne hn c2
      rcases hq with hq | hq
      · exact n1 hq
      · rcases look_key L s st hj hi hne hn e hx hq with f | ⟨he, _, ht⟩
        · rw [clr_up (es := es) c] at f
          exact absurd f (by decide)
        · rcases n2 he with z | z
          · rw [ht] at z; cases z
          · exact pnd_nlook z e
    · rw [if_neg hja]
      intro c
      obtain ⟨n1, n2⟩ := ap i j hi hj hne c
      refine ⟨n1, fun he => ?_⟩
      rw [tok_other hja hia]
      exact n2 he
/-- a standing that safe hands can come to -/
structure SafeS (k : Nat) (M : Nat → Nat → Str) (ws : List (List Int)) (ps : Pls) (tk : Tks) : Prop where
  st : StP k M ws ps tk
  na : ∀ i, i < k → (pAt ps i).1 ≠ ("anew" : Str)
  ap : ∀ i j, i < k → j < k → i ≠ j → Ap M ws ps tk i j
theorem place_na (L : Lk k M ws es) (s : SafeP k M es) (st : StP k M ws ps tk) (na : (pAt ps a).1 ≠ ("anew" : Str)) (ha : a < k) (hn : nx1 k M ws es ps tk a = some x) : (placeS k M es ps tk (wAt ws a) a (pAt ps a) (jAt ws ps a) (pAt ps (jAt ws ps a))).1 ≠ ("anew" : Str) :=
  (own_ok L s st na ha hn).2.2.2
theorem SafeS.step (L : Lk k M ws es) (s : SafeP k M es) (h2 : 2 ≤ k) (f : SafeS k M ws ps tk) (ha : a < k) (hn : nx1 k M ws es ps tk a = some x) : SafeS k M ws (af1 k M ws es ps tk a).1 (af1 k M ws es ps tk a).2 := by
  obtain ⟨hw, hp, hj⟩ := at1 L f.st ha
  have o := f.st.at_ a _ _ hw hp
  have hn' : nextW k M es ps tk a (pAt ps a) (jAt ws ps a) (pAt ps (jAt ws ps a)) = some x := hn
  have haf : af1 k M ws es ps tk a = (ps.set a (placeS k M es ps tk (wAt ws a) a (pAt ps a) (jAt ws ps a) (pAt ps (jAt ws ps a))), tokS M tk (wAt ws a) a (pAt ps a)) := afterS_eq o.kind hn'
  have hal : a < ps.length := by rw [f.st.st.len]; exact ha
  refine ⟨af_stp L h2 f.st ha, fun i hi => ?_, fun i j hi hj hne => ?_⟩
  · rw [haf, pAt_set hal]
    split
    · exact place_na L s f.st (f.na a ha) ha hn
    · exact f.na i hi
  · rw [haf]
    exact ap_step L s f.st f.na f.ap ha hn hi hj hne
theorem SafeS.run (L : Lk k M ws es) (s : SafeP k M es) (h2 : 2 ≤ k) : ∀ (hs : List Nat) (ps : Pls) (tk : Tks), SafeS k M ws ps tk → (∀ a ∈ hs, a < k) → ∀ e ∈ goRun k M ws es ps tk hs, SafeS k M ws e.ps e.tk
  | [], _, _, _, _, _, h => by cases h
  | a :: hs, ps, tk, f, hh, e, h => by
    unfold goRun at h
    cases hn : nx1 k M ws es ps tk a with
    | none => rw [hn] at h; cases h
    | some x =>
      rw [hn] at h
      have f' := f.step L s h2 (hh a (.head _)) hn
      rcases List.mem_cons.mp h with q | q
      · subst q; exact f'
      · exact SafeS.run L s h2 hs _ _ f' (fun a ha => hh a (.tail _ ha)) e q
/-- no two are in -/
theorem SafeS.one (f : SafeS k M ws ps tk) (hi : i < k) (hj : j < k) (hne : i ≠ j) (h1 : (pAt ps i).1 = ("in" : Str)) (h2 : (pAt ps j).1 = ("in" : Str)) : False :=
  (f.ap i j hi hj hne (.inl h1)).1 (.inl h2)
end
end Vw
set_option maxRecDepth 100000
set_option maxHeartbeats 4000000
namespace Vw
open PySem PySem.Spec L2
end Vw
set_option maxRecDepth 100000
set_option maxHeartbeats 4000000
namespace Vw
open PySem PySem.Spec L2
end Vw
set_option maxRecDepth 100000
set_option maxHeartbeats 4000000
namespace Vw
open PySem PySem.Spec L2
end Vw
set_option maxRecDepth 100000
set_option maxHeartbeats 4000000
namespace Vw
open PySem PySem.Spec L2
section
variable {k : Nat} {M : Nat → Nat → Str} {ws : List (List Int)} {es : List Int} {ps : Pls} {tk : Tks} {S : Sto} {hs : List Nat} {i j N : Nat}
theorem rs_perm {k : Nat} {ys : List Int} (hp : ys.Perm (natL (List.range k))) : ∃ rs : List Nat, ys = natL rs ∧ rs.Perm (List.range k) := by
  refine ⟨ys.map Int.toNat, ?_, ?_⟩
  · have h : ∀ z ∈ ys, ((z.toNat : Nat) : Int) = z := fun z hz => by
      obtain ⟨j, _, rfl⟩ := List.mem_map.mp (hp.mem_iff.mp hz)
      rw [Int.toNat_natCast]
    show ys = (ys.map Int.toNat).map fun j : Nat => (j : Int)
    rw [List.map_map]
    exact ((List.map_congr_left (g := id) fun z hz => h z hz).trans (List.map_id _)).symm
  · have := hp.map Int.toNat
    have e : (natL (List.range k)).map Int.toNat = List.range k := by
      unfold natL
      rw [List.map_map]
      exact (List.map_congr_left (g := id) fun z _ => Int.toNat_natCast z).trans (List.map_id _)
    rwa [e] at this
end
end Vw
set_option maxRecDepth 100000
set_option maxHeartbeats 4000000
namespace Vw
open PySem PySem.Spec L2
structure DoneP (ps : List (Str × Str)) (k i j : Nat) (M : Nat → Nat → Str) : Prop where
  dia : ∀ a, a < k → M a a = wDash
  pair : ∀ a b, a < b → b < k → (b < i ∨ (b = i ∧ a < j)) → (M b a, M a b) ∈ ps
theorem DoneP.step {ps : List (Str × Str)} {k i j : Nat} {M : Nat → Nat → Str} {x y : Str} (d : DoneP ps k i j M) (hji : j < i) (hi : i < k) (p : (x, y) ∈ ps) : DoneP ps k i (j + 1) (upd2 (upd2 M i j x) j i y) := by
  have e : ∀ a b, upd2 (upd2 M i j x) j i y a b = if a = j ∧ b = i then y else if a = i ∧ b = j then x else M a b := fun a b => by
    unfold upd2 upd1
    by_cases h1 : a = j
    · subst h1
      by_cases h2 : b = i
      · subst h2; simp
      · have : ¬ a = i := by omega
        simp [h2, this]
    · by_cases h2 : a = i
      · subst h2
        by_cases h3 : b = j <;> simp [h1, h3]
      · simp [h1, h2]
  refine ⟨fun a ha => ?_, fun a b hab hb h => ?_⟩
  · rw [e, if_neg (by omega), if_neg (by omega)]; exact d.dia a ha
  · by_cases h1 : a = j ∧ b = i
    · obtain ⟨rfl, rfl⟩ := h1
      rw [e, e, if_neg (by omega), if_pos ⟨rfl, rfl⟩, if_pos ⟨rfl, rfl⟩]
      exact p
    · rw [e, e, if_neg h1, if_neg (by omega), if_neg (by omega), if_neg (by omega)]
      exact d.pair a b hab hb (by omega)
theorem DoneP.next {ps : List (Str × Str)} {k i : Nat} {M : Nat → Nat → Str} (d : DoneP ps k i i M) : DoneP ps k (i + 1) 0 M := ⟨d.dia, fun a b hab hb h => d.pair a b hab hb (by omega)⟩
def rowS (k : Nat) (f : Nat → Str) : List Str := (List.range k).map f
theorem rowS_map {k : Nat} {f : Nat → Str} : (rowS k f).map D.str = rowD k f := by
  unfold rowS rowD; rw [List.map_map]; rfl
end Vw
set_option maxRecDepth 100000
set_option maxHeartbeats 4000000
namespace Vw
open PySem PySem.Spec L2
end Vw
set_option maxRecDepth 100000
set_option maxHeartbeats 4000000
namespace Vw
open PySem PySem.Spec L2
end Vw
set_option maxRecDepth 100000
set_option maxHeartbeats 4000000
namespace Vw
open PySem PySem.Spec L2
abbrev w4 : List Str := ["pass", "slip", "behind", "ahead"]
end Vw
set_option maxRecDepth 100000
set_option maxHeartbeats 4000000
namespace Vw
open PySem PySem.Spec L2
section
variable {k : Nat} {M : Nat → Nat → Str} {ws : List (List Int)} {es : List Int} {S : Sto} {rs : List Nat} {i j : Nat}
theorem cl_inj (hp : rs.Perm (List.range k)) (hi : i < k) (hj : j < k) (h : rs.getD i 0 = rs.getD j 0) : i = j := by
  have h1 := (cl_get hp hi).2
  rw [h, (cl_get hp hj).2] at h1
  exact h1.symm
end
end Vw
set_option maxRecDepth 100000
set_option maxHeartbeats 4000000
namespace Vw
open PySem PySem.Spec L2
def d_fdtable : DS :=
    (dSeq (dAsg (dLc true [5] (dRng1 (dCons (dVar 1) dNil)) (dgName 5) dYes (dBin (opMulA true) (dLst false (dCons (dCon (.str ("-" : Str))) dNil)) (dVar 1))) (dgName 4))
    (dSeq (dFor (dRng1 (dCons (dVar 1) dNil)) (dgName 5)
    (dSeq (dFor (dRng2 (dCons (dBin (opAdd false) (dVar 5) (dCon (.int 1))) (dCons (dVar 1) dNil))) (dgName 6)
    (dSeq (dIte (dCmpT (opCmp fun i j => decide (i < j)) (dCallF 2 (dCons (dVar 0) (dCons (dCon (.int 10)) dNil)) fn_fddraw) (dVar 3))
    (dSeq (dAsg (dTup (dCons (dCon (.str ("even" : Str))) (dCons (dCon (.str ("even" : Str))) dNil))) (dgTup 2 (dgCons (dgSub (dBin opIx (dVar 4) (dVar 5)) (dVar 6)) (dgCons (dgSub (dBin opIx (dVar 4) (dVar 6)) (dVar 5)) dgNil))))
    dSkip) (dSeq (dAsg (dTup (dCons (dCallF 2 (dCons (dVar 0) (dCons (dVar 2) dNil)) fn_fdpick) (dCons (dCallF 2 (dCons (dVar 0) (dCons (dVar 2) dNil)) fn_fdpick) dNil))) (dgTup 2 (dgCons (dgSub (dBin opIx (dVar 4) (dVar 5)) (dVar 6)) (dgCons (dgSub (dBin opIx (dVar 4) (dVar 6)) (dVar 5)) dgNil))))
    dSkip))
    dSkip))
    dSkip))
    (dSeq (dRet (dCall opTuple (dCons (dLc false [7] (dSeqI (dVar 4)) (dgName 7) dYes (dCall opTuple (dCons (dVar 7) dNil))) dNil)))
    dSkip)))
def fn_fdtable : DF := dDef 8 d_fdtable
abbrev ftB : DS := (dSeq (dIte (dCmpT (opCmp fun i j => decide (i < j)) (dCallF 2 (dCons (dVar 0) (dCons (dCon (.int 10)) dNil)) fn_fddraw) (dVar 3))
    (dSeq (dAsg (dTup (dCons (dCon (.str ("even" : Str))) (dCons (dCon (.str ("even" : Str))) dNil))) (dgTup 2 (dgCons (dgSub (dBin opIx (dVar 4) (dVar 5)) (dVar 6)) (dgCons (dgSub (dBin opIx (dVar 4) (dVar 6)) (dVar 5)) dgNil))))
    dSkip) (dSeq (dAsg (dTup (dCons (dCallF 2 (dCons (dVar 0) (dCons (dVar 2) dNil)) fn_fdpick) (dCons (dCallF 2 (dCons (dVar 0) (dCons (dVar 2) dNil)) fn_fdpick) dNil))) (dgTup 2 (dgCons (dgSub (dBin opIx (dVar 4) (dVar 5)) (dVar 6)) (dgCons (dgSub (dBin opIx (dVar 4) (dVar 6)) (dVar 5)) dgNil))))
    dSkip))
    dSkip)
abbrev ftR : DS := (dSeq (dFor (dRng2 (dCons (dBin (opAdd false) (dVar 5) (dCon (.int 1))) (dCons (dVar 1) dNil))) (dgName 6)
    ftB)
    dSkip)
theorem fd_str {N : Nat} {S S0 : Sto} {l : List Str} {x : D} (b : Fek N S) (kp : KeepG N S0 S) (hx : ∀ S', KeepG N S0 S' → seqD S' x = some (l.map D.str)) (h0 : 0 < l.length) (h1 : l.length < 1000) :
    ∃ y ∈ l, ∃ S', fn_fdpick [.loc 1, x] S = some (.str y, S') ∧ Fek N S' ∧ KeepN N S S' := by
  obtain ⟨r, hr, S1, e1, b1, k1⟩ := fd_pick (ds := l.map D.str) (x := x) b (fun S' h => hx S' (kp.trans h.grow)) (by rw [List.length_map]; exact h0) (by rw [List.length_map]; omega)
  have hr' : r < l.length := by rw [List.length_map] at hr; exact hr
  refine ⟨l[r], List.getElem_mem hr', S1, ?_, b1, k1⟩
  rw [e1, List.getElem_map]
theorem ft_pair {ms : List Str} {menu : D} {m : Int} {L k i j N : Nat} {M : Nat → Nat → Str} {S0 S : Sto} {d7 : Option D} (g : GridW L k M S) (dn : DoneQ ps5 k i j M) (hij : i < j) (hj : j < k) (b : Fek N S) (kp : KeepG N S0 S) (h0 : S0.length ≤ L) (hN : N ≤ S0.length) (hms : ∀ x ∈ ms, ∀ y ∈ ms, (x, y) ∈ ps5) (hp0 : 0 < ms.length) (hp1 : ms.length < 1000)
    (hx : ∀ S', KeepG N S0 S' → seqD S' menu = some (ms.map D.str)) :
    ∃ (S2 : Sto) (M2 : Nat → Nat → Str), ftB [some (.loc 1), some (.int k), some menu, some (.int m), some (.loc (L + k)), some (.int i), some (.int j), d7] S = some (.nx, [some (.loc 1), some (.int k), some menu, some (.int m), some (.loc (L + k)), some (.int i), some (.int j), d7], S2) ∧ GridW L k M2 S2 ∧ DoneQ ps5 k i (j + 1) M2 ∧ Fek N S2 ∧ KeepG N S0 S2 := by
  let G : Gam := [some (.loc 1), some (.int k), some menu, some (.int m), some (.loc (L + k)), some (.int i), some (.int j), d7]
  obtain ⟨r, S1, e1, _, b1, k1⟩ := fd_draw (size := 10) b (by decide) (by decide)
  have kp1 := kp.trans k1.grow
  have g1 : GridW L k M S1 := g.keep k1.grow (by omega)
  have c : dCmpT (opCmp fun i j => decide (i < j)) (dCallF 2 (dCons (dVar 0) (dCons (dCon (.int 10)) dNil)) fn_fddraw) (dVar 3) G S = some (decide ((r : Int) < m), S1) := dCmpT_of (dCallF_of (ds := [.loc 1, .int 10]) (S1 := S) rfl rfl e1) (y := .int m) (S2 := S1) rfl lt_int
  by_cases hc : (r : Int) < m
  · rw [decide_eq_true hc] at c
    obtain ⟨S2, e2, g2, b2, k2⟩ := fg_pair (G := G) (r := 4) (i := 5) (j := 6) (a := i) (b := j) (x := "even") (y := "even") (f := dTup (dCons (dCon (.str ("even" : Str))) (dCons (dCon (.str ("even" : Str))) dNil))) (S0 := S1) (dTup_of (ds := [.str "even", .str "even"]) rfl (by show 2 ≤ 1000000; decide)) g1 (fun _ => rfl) (fun _ => rfl) (fun _ => rfl) (by omega) hj b1 kp1 h0 hN
    exact ⟨S2, _, (dSeq_nx ((dIte_t c).trans ((dSeq_nx e2).trans rfl))).trans rfl, g2, dn.step hij hj (by decide), b2, k2⟩
  · rw [decide_eq_false hc] at c
    obtain ⟨x, hxm, S2, e2, b2, k2⟩ := fd_str (S0 := S0) b1 kp1 hx hp0 hp1
    have kp2 := kp1.trans k2.grow
    obtain ⟨y, hym, S3, e3, b3, k3⟩ := fd_str (S0 := S0) b2 kp2 hx hp0 hp1
    have kp3 := kp2.trans k3.grow
    have g3 : GridW L k M S3 := g1.keep (k2.grow.trans k3.grow) (by omega)
    obtain ⟨S4, e4, g4, b4, k4⟩ := fg_pair (G := G) (r := 4) (i := 5) (j := 6) (a := i) (b := j) (x := x) (y := y) (f := dTup (dCons (dCallF 2 (dCons (dVar 0) (dCons (dVar 2) dNil)) fn_fdpick) (dCons (dCallF 2 (dCons (dVar 0) (dCons (dVar 2) dNil)) fn_fdpick) dNil))) (S0 := S1) (dTup_of (ds := [.str x, .str y]) (dCons_of (dCallF_of (ds := [.loc 1, menu]) (S1 := S1) rfl rfl e2) (dOne_of (dCallF_of (ds := [.loc 1, menu]) (S1 := S2) rfl rfl e3))) (by show 2 ≤ 1000000; decide)) g3 (fun _ => rfl) (fun _ => rfl) (fun _ => rfl) (by omega) hj b3 kp3 h0 hN
    exact ⟨S4, _, (dSeq_nx ((dIte_f c).trans ((dSeq_nx e4).trans rfl))).trans rfl, g4, dn.step hij hj (hms x hxm y hym), b4, k4⟩
theorem fd_table {ms : List Str} {menu : D} {m : Int} {N k : Nat} {S : Sto} (b : Fek N S) (hN : N ≤ S.length) (hk : k ≤ 10) (hms : ∀ x ∈ ms, ∀ y ∈ ms, (x, y) ∈ ps5) (hp0 : 0 < ms.length) (hp1 : ms.length < 1000) (hx : ∀ S', KeepG N S S' → seqD S' menu = some (ms.map D.str)) :
    ∃ (M : Nat → Nat → Str) (S' : Sto), fn_fdtable [.loc 1, .int k, menu, .int m] S = some (gridD k M, S') ∧ PlainM k M ∧ Fek N S' ∧ KeepG N S S' := by
  let L := S.length
  let G (d4 d5 d6 d7 : Option D) : Gam := [some (.loc 1), some (.int k), some menu, some (.int m), d4, d5, d6, d7]
  let T : Option D := some (.loc (L + k))
  have hr := rng1_ok (fs := dCons (dVar 1) dNil) (k := k) (G := G none none none none) (S := S) rfl (by omega)
  obtain ⟨S2, ec, g0, hl0, b0, k0⟩ := fg_new (v := 5) (u := 1) b hN hk hr (fun _ _ => rfl)
  have f1 : dAsg (dLc true [5] (dRng1 (dCons (dVar 1) dNil)) (dgName 5) dYes (dBin (opMulA true) (dLst false (dCons (dCon (.str ("-" : Str))) dNil)) (dVar 1))) (dgName 4) (G none none none none) S = some (.nx, G T none none none, S2) := dAsg_of ec
  have hr2 := rng1_ok (fs := dCons (dVar 1) dNil) (k := k) (G := G T none none none) (S := S2) rfl (by omega)
  obtain ⟨G3, S3, e3, M, d5, d6, rfl, g3, dn3, b3, k3⟩ := for_inv (src := fixS (rngD 0 (k : Int))) (g := dgName 5) (b := ftR) (ds := rngD 0 (k : Int))
    (fun i G' S' => ∃ M d5 d6, G' = G T d5 d6 none ∧ GridW L k M S' ∧ DoneQ ps5 k i (i + 1) M ∧ Fek N S' ∧ KeepG N S S') (fun i G' S' h => rfl)
    (fun i G' S' d hd h => by
      obtain ⟨M, d5, d6, rfl, g, dn, hb, hkp⟩ := h
      have hi : i < k := by have := (List.getElem?_eq_some_iff.mp hd).1; rwa [rngD_len] at this
      rw [rngD_get hi] at hd
      cases hd
      have hrr := rng2_ok (fs := dCons (dBin (opAdd false) (dVar 5) (dCon (.int 1))) (dCons (dVar 1) dNil)) (a := i + 1) (k := k) (G := G T (some (.int (i : Nat))) d6 none) (S := S') rfl (by omega) (by omega)
      obtain ⟨G4, S4, e4, M4, d6', rfl, g4, dn4, b4, k4⟩ := for_inv (src := fixS (rngD ((i + 1 : Nat) : Int) (k : Int))) (g := dgName 6) (b := ftB) (ds := rngD ((i + 1 : Nat) : Int) (k : Int))
        (fun t G' S' => ∃ M d6, G' = G T (some (.int (i : Nat))) d6 none ∧ GridW L k M S' ∧ DoneQ ps5 k i (i + 1 + t) M ∧ Fek N S' ∧ KeepG N S S') (fun t G' S' h => rfl)
        (fun t G' S' d hd h => by
          obtain ⟨M, d6, rfl, g, dn, hb, hkp⟩ := h
          have ht : t < k - (i + 1) := by have := (List.getElem?_eq_some_iff.mp hd).1; rwa [rngD_len2] at this
          rw [rngD_get2 ht] at hd
          cases hd
          obtain ⟨S5, M5, e, g5, dn5, b5, k5⟩ := ft_pair (m := m) (i := i) (j := i + 1 + t) (d7 := none) g dn (by omega) (by omega) hb hkp (Nat.le_refl _) hN hms hp0 hp1 hx
          exact ⟨_, S', _, S5, rfl, e, M5, _, rfl, g5, dn5, b5, k5⟩) (k - (i + 1)) 0 (G T (some (.int (i : Nat))) d6 none) S' (by rw [rngD_len2]; omega) ⟨M, d6, rfl, g, dn, hb, hkp⟩
      rw [rngD_len2] at dn4
      rw [rngD_len2] at hrr
      rw [show i + 1 + (k - (i + 1)) = k by omega] at dn4
      exact ⟨_, S', _, S4, rfl, (dSeq_nx ((dFor_of hrr).trans e4)).trans rfl, M4, _, d6', rfl, g4, dn4.next, b4, k4⟩) k 0 (G T none none none) S2 (by rw [rngD_len]; omega) ⟨_, none, none, rfl, g0, ⟨fun a _ => rfl, fun a b _ _ h => by omega⟩, b0, k0⟩
  rw [rngD_len] at dn3
  have y1 := fg_out (v := 7) (u := 4) (G := G T d5 d6 none) g3 hk rfl (by show 7 < 8; decide)
  exact ⟨M, S3, dFn_rt (G' := G T d5 d6 none) ((dSeq_nx f1).trans ((dSeq_nx ((dFor_of hr2).trans e3)).trans (dRetS_of y1))), .of ⟨dn3.dia, fun a b hab hb _ => dn3.pair a b hab hb (.inl (by omega))⟩, b3, k3⟩
end Vw
set_option maxRecDepth 100000
set_option maxHeartbeats 4000000
namespace Vw
open PySem PySem.Spec L2
def d_fdrows : DS :=
    (dSeq (dRet (dLc true [1] (dSeqI (dVar 0)) (dgName 1) dYes (dCall (opList true) (dCons (dVar 1) dNil))))
    dSkip)
def fn_fdrows : DF := dDef 2 d_fdrows
def d_fdwith : DS :=
    (dSeq (dAsg (dCallF 1 (dCons (dVar 0) dNil) fn_fdrows) (dgName 4))
    (dSeq (dAsg (dVar 3) (dgTup 2 (dgCons (dgSub (dBin opIx (dVar 4) (dVar 1)) (dVar 2)) (dgCons (dgSub (dBin opIx (dVar 4) (dVar 2)) (dVar 1)) dgNil))))
    (dSeq (dRet (dCall opTuple (dCons (dLc false [5] (dSeqI (dVar 4)) (dgName 5) dYes (dCall opTuple (dCons (dVar 5) dNil))) dNil)))
    dSkip)))
def fn_fdwith : DF := dDef 6 d_fdwith
def d_fdturned : DS :=
    (dSeq (dAsg (dLst false (dCons (dTup (dCons (dCon (.str ("stand" : Str))) (dCons (dCon (.str ("bow" : Str))) dNil))) (dCons (dTup (dCons (dCon (.str ("bow" : Str))) (dCons (dCon (.str ("stand" : Str))) dNil))) (dCons (dTup (dCons (dCon (.str ("even" : Str))) (dCons (dCon (.str ("even" : Str))) dNil))) (dCons (dTup (dCons (dCon (.str ("stand" : Str))) (dCons (dCon (.str ("stand" : Str))) dNil))) (dCons (dTup (dCons (dCon (.str ("bow" : Str))) (dCons (dCon (.str ("bow" : Str))) dNil))) dNil)))))) (dgName 3))
    (dSeq (dFor (dRng1 (dCons (dVar 2) dNil)) (dgName 4)
    (dSeq (dAsg (dSlG false (dCallF 2 (dCons (dVar 0) (dCons (dLrg false (dCall opLen (dCons (dVar 1) dNil))) dNil)) fn_fdmixed) doNone (doSome (dCon (.int 2)))) (dgLst 2 (dgCons (dgName 5) (dgCons (dgName 6) dgNil))))
    (dSeq (dAsg (dCallF 4 (dCons (dVar 1) (dCons (dVar 5) (dCons (dVar 6) (dCons (dCallF 2 (dCons (dVar 0) (dCons (dVar 3) dNil)) fn_fdpick) dNil)))) fn_fdwith) (dgName 1))
    dSkip)))
    (dSeq (dRet (dVar 1))
    dSkip)))
def fn_fdturned : DF := dDef 7 d_fdturned
section
variable {N k : Nat} {M : Nat → Nat → Str} {S : Sto} {G : Gam}
theorem fd_rowE {f : DE} (b : Fek N S) (hN : N ≤ S.length) (hk : k ≤ 100) (h1 : dVar 0 G S = some (.loc 1, S)) (hf : f G S = some (.int (k : Nat), S)) :
    ∃ (rs : List Nat) (S' : Sto), dCallF 2 (dCons (dVar 0) (dCons (dLrg false f) dNil)) fn_fdmixed G S = some (.loc (S.length + 1), S') ∧ S'[S.length + 1]? = some (Cell.lst (intL (natL rs))) ∧ rs.Perm (List.range k) ∧ Fek N S' ∧ S'.length = S.length + 2 ∧ KeepG N S S' := by
  let xs : List Int := natL (List.range k)
  have hxs : rngD 0 (k : Int) = intL xs := by rw [rng_map]; show _ = ((List.range k).map fun j : Nat => (j : Int)).map D.int; rw [List.map_map]; rfl
  have el : dLrg false f G S = some (.lst (intL xs), S) := by
    unfold dLrg
    rw [hf]
    show (if -1000000 ≤ (k : Int) ∧ (k : Int) ≤ 1000000 then okLst false (rngD 0 k) S else none) = _
    rw [if_pos (by omega), okv (by rw [rngD_len]; omega), hxs]
  obtain ⟨ys, S5, e5, c5, hp, b5, l5, k5⟩ := fd_mixed (x := .lst (intL xs)) (xs := xs) b hN rfl (by show (List.map _ _).length < 900; rw [List.length_map, List.length_range]; omega)
  obtain ⟨rs, rfl, hrs⟩ := rs_perm hp
  exact ⟨rs, S5, dCallF_of (ds := [.loc 1, .lst (intL xs)]) (S1 := S) (dCons_of h1 (dOne_of el)) rfl e5, c5, hrs, b5, l5, k5⟩
theorem cut_mix {f : DE} {fh : DO} {n m : Nat} {rs : List Nat} {S1 S2 : Sto} (e : f G S = some (.loc n, S1)) (c : S1[n]? = some (Cell.lst (intL (natL rs)))) (keep : S2[n]? = S1[n]?) (hh : fh G S1 = some (some ((m : Nat) : Int), S2)) (hm : m ≤ rs.length) (hl : rs.length ≤ 100) :
    dSlG false f doNone fh G S = some (.lst (intL (natL (rs.take m))), S2) := by
  have ec : lstS S1 (.loc n) = some (intL (natL rs)) := by
    unfold lstS
    dsimp only
    rw [c]
  have ec2 : lstS S2 (.loc n) = some (intL (natL rs)) := by
    unfold lstS
    dsimp only
    rw [keep, c]
  unfold dSlG
  rw [e]
  show (fh G S1).bind _ = _
  rw [hh]
  show (lstS S2 (.loc n)).bind (fun xs => okLst false (cutD xs none (some ((m : Nat) : Int))) S2) = _
  rw [ec2]
  show okLst false (cutD (intL (natL rs)) none (some ((m : Nat) : Int))) S2 = _
  rw [cut_take (by rw [intL_len, natL_len]; omega), show (intL (natL rs)).take m = intL (natL (rs.take m)) from by show ((rs.map _).map _).take m = _; rw [← List.map_take, ← List.map_take]; rfl]
  exact okv (by rw [intL_len, natL_len, List.length_take]; omega)
theorem fd_rows (b : Fek N S) (hN : N ≤ S.length) (hk : k ≤ 10) : ∃ S', fn_fdrows [gridD k M] S = some (.loc (S.length + k), S') ∧ GridW S.length k M S' ∧ Fek N S' ∧ KeepG N S S' := by
  let G : Gam := [some (gridD k M), none]
  have hw : dSeqI (dVar 0) G S = some (fixS ((List.range k).map fun r => D.tup (rowD k (M r))), k + 1, S) := by
    have := dSeqI_t (f := dVar 0) (G := G) (S := S) (S1 := S) (ds := (List.range k).map fun r => D.tup (rowD k (M r))) rfl
    rwa [List.length_map, List.length_range] at this
  obtain ⟨S', e, g, _, b', k'⟩ := fg_lists (v := 1) (M := M) (G := G) b hN hk hw (by show 1 < 2; decide)
  exact ⟨S', dFn_rt (G' := G) (dRetS_of e), g, b', k'⟩
theorem fd_with {i j : Nat} {x y : Str} (b : Fek N S) (hN : N ≤ S.length) (hk : k ≤ 10) (hi : i < k) (hj : j < k) :
    ∃ S', fn_fdwith [gridD k M, .int (i : Nat), .int (j : Nat), .tup [.str x, .str y]] S = some (gridD k (upd2 (upd2 M i j x) j i y), S') ∧ Fek N S' ∧ KeepG N S S' := by
  let G (d4 : Option D) : Gam := [some (gridD k M), some (.int (i : Nat)), some (.int (j : Nat)), some (.tup [.str x, .str y]), d4, none]
  obtain ⟨S1, e1, g1, b1, k1⟩ := fd_rows (M := M) b hN hk
  let T : Option D := some (.loc (S.length + k))
  have f1 : dAsg (dCallF 1 (dCons (dVar 0) dNil) fn_fdrows) (dgName 4) (G none) S = some (.nx, G T, S1) := dAsg_of (dCallF_of (ds := [gridD k M]) (S1 := S) rfl rfl e1)
  obtain ⟨S2, e2, g2, b2, k2⟩ := fg_pair (G := G T) (r := 4) (i := 1) (j := 2) (a := i) (b := j) (x := x) (y := y) (f := dVar 3) (S0 := S1) (S1 := S) rfl g1 (fun _ => rfl) (fun _ => rfl) (fun _ => rfl) hi hj b1 k1 (Nat.le_refl _) hN
  have y1 := fg_out (v := 5) (u := 4) (G := G T) g2 hk rfl (by show 5 < 6; decide)
  exact ⟨S2, dFn_rt (G' := G T) ((dSeq_nx f1).trans ((dSeq_nx e2).trans (dRetS_of y1))), b2, k2⟩
def turnP : List (Str × Str) := [("stand", "bow"), ("bow", "stand"), ("even", "even"), ("stand", "stand"), ("bow", "bow")]
theorem fd_deal {l : List (Str × Str)} (b : Fek N S) (h0 : 0 < l.length) (h1 : l.length < 1000) :
    ∃ p ∈ l, ∃ S', fn_fdpick [.loc 1, .lst (l.map pairV)] S = some (pairV p, S') ∧ Fek N S' ∧ KeepN N S S' := by
  obtain ⟨r, hr, S1, e1, b1, k1⟩ := fd_pick (ds := l.map pairV) (x := .lst (l.map pairV)) b (fun S' h => rfl) (by rw [List.length_map]; exact h0) (by rw [List.length_map]; omega)
  have hr' : r < l.length := by rw [List.length_map] at hr; exact hr
  refine ⟨l[r], List.getElem_mem hr', S1, ?_, b1, k1⟩
  rw [e1, List.getElem_map]
theorem two_takeN : ∀ (rs : List Nat), 2 ≤ rs.length → intL (natL (rs.take 2)) = [D.int (rs.getD 0 0 : Nat), D.int (rs.getD 1 0 : Nat)]
  | a :: z :: _, _ => rfl
  | [_], h => absurd h (by simp)
  | [], h => absurd h (by simp)
abbrev fuB : DS := (dSeq (dAsg (dSlG false (dCallF 2 (dCons (dVar 0) (dCons (dLrg false (dCall opLen (dCons (dVar 1) dNil))) dNil)) fn_fdmixed) doNone (doSome (dCon (.int 2)))) (dgLst 2 (dgCons (dgName 5) (dgCons (dgName 6) dgNil))))
    (dSeq (dAsg (dCallF 4 (dCons (dVar 1) (dCons (dVar 5) (dCons (dVar 6) (dCons (dCallF 2 (dCons (dVar 0) (dCons (dVar 3) dNil)) fn_fdpick) dNil)))) fn_fdwith) (dgName 1))
    dSkip))
theorem fd_turned {n : Nat} (b : Fek N S) (hN : N ≤ S.length) (hk : k ≤ 10) (h2 : 2 ≤ k) (hn : n ≤ 1000) (p : PlainM k M) :
    ∃ M' S', fn_fdturned [.loc 1, gridD k M, .int (n : Nat)] S = some (gridD k M', S') ∧ PlainM k M' ∧ Fek N S' ∧ KeepG N S S' := by
  let Q : Option D := some (.lst (turnP.map pairV))
  let G (M : Nat → Nat → Str) (d3 d4 d5 d6 : Option D) : Gam := [some (.loc 1), some (gridD k M), some (.int (n : Nat)), d3, d4, d5, d6]
  have f1 : dAsg (dLst false (dCons (dTup (dCons (dCon (.str ("stand" : Str))) (dCons (dCon (.str ("bow" : Str))) dNil))) (dCons (dTup (dCons (dCon (.str ("bow" : Str))) (dCons (dCon (.str ("stand" : Str))) dNil))) (dCons (dTup (dCons (dCon (.str ("even" : Str))) (dCons (dCon (.str ("even" : Str))) dNil))) (dCons (dTup (dCons (dCon (.str ("stand" : Str))) (dCons (dCon (.str ("stand" : Str))) dNil))) (dCons (dTup (dCons (dCon (.str ("bow" : Str))) (dCons (dCon (.str ("bow" : Str))) dNil))) dNil)))))) (dgName 3) (G M none none none none) S = some (.nx, G M Q none none none, S) :=
    dAsg_of (dLst_of rfl (by show 5 ≤ 1000000; decide))
  have hr := rng1_ok (fs := dCons (dVar 2) dNil) (k := n) (G := G M Q none none none) (S := S) rfl (by omega)
  obtain ⟨G3, S3, e3, M', d4, d5, d6, rfl, p3, b3, k3⟩ := for_inv (src := fixS (rngD 0 (n : Int))) (g := dgName 4) (b := fuB) (ds := rngD 0 (n : Int))
    (fun i G' S' => ∃ M d4 d5 d6, G' = G M Q d4 d5 d6 ∧ PlainM k M ∧ Fek N S' ∧ KeepG N S S') (fun i G' S' h => rfl)
    (fun i G' S' d hd h => by
      obtain ⟨M, d4, d5, d6, rfl, p, hb, hkp⟩ := h
      have hi : i < n := by have := (List.getElem?_eq_some_iff.mp hd).1; rwa [rngD_len] at this
      rw [rngD_get hi] at hd
      cases hd
      have hN' : N ≤ S'.length := Nat.le_trans hN hkp.len
      let I4 : Option D := some (.int (i : Nat))
      obtain ⟨rs, S1, e1, c1, hrs, b1, l1, k1⟩ := fd_rowE (k := k) (f := dCall opLen (dCons (dVar 1) dNil)) (G := G M Q I4 d5 d6) hb hN' (by omega) rfl (dCall_of (dOne_of (d := gridD k M) (S1 := S') rfl) len_grid)
      have hrl : rs.length = k := by rw [hrs.length_eq, List.length_range]
      have hN1 : N ≤ S1.length := by omega
      obtain ⟨ha, _⟩ := cl_get hrs (j := 0) (by omega)
      obtain ⟨hc, _⟩ := cl_get hrs (j := 1) (by omega)
      have hne : rs.getD 0 0 ≠ rs.getD 1 0 := fun q => by
        have := cl_inj hrs (i := 0) (j := 1) (by omega) (by omega) q
        omega
      have s1 := cut_mix (G := G M Q I4 d5 d6) (fh := doSome (dCon (.int 2))) (m := 2) (S2 := S1) e1 c1 rfl rfl (by omega) (by omega)
      rw [two_takeN rs (by omega)] at s1
      let A : Option D := some (.int (rs.getD 0 0 : Nat))
      let B : Option D := some (.int (rs.getD 1 0 : Nat))
      have f2 : dAsg (dSlG false (dCallF 2 (dCons (dVar 0) (dCons (dLrg false (dCall opLen (dCons (dVar 1) dNil))) dNil)) fn_fdmixed) doNone (doSome (dCon (.int 2)))) (dgLst 2 (dgCons (dgName 5) (dgCons (dgName 6) dgNil))) (G M Q I4 d5 d6) S' = some (.nx, G M Q I4 A B, S1) := dAsgG_of s1 rfl
      obtain ⟨q, hq, S2, e2, b2, k2⟩ := fd_deal (l := turnP) b1 (by decide) (by decide)
      have hN2 : N ≤ S2.length := by rw [k2.len]; exact hN1
      have hq5 : ∀ q ∈ turnP, q ∈ ps5 := by decide
      obtain ⟨S4, e4, b4, k4⟩ := fd_with (M := M) (x := q.1) (y := q.2) b2 hN2 hk ha hc
      have f3 : dAsg (dCallF 4 (dCons (dVar 1) (dCons (dVar 5) (dCons (dVar 6) (dCons (dCallF 2 (dCons (dVar 0) (dCons (dVar 3) dNil)) fn_fdpick) dNil)))) fn_fdwith) (dgName 1) (G M Q I4 A B) S1 = some (.nx, G _ Q I4 A B, S4) :=
        dAsg_of (dCallF_of (ds := [gridD k M, .int (rs.getD 0 0 : Nat), .int (rs.getD 1 0 : Nat), pairV q]) (S1 := S2) (dCons_of rfl (dCons_of rfl (dCons_of rfl (dOne_of (dCallF_of (ds := [.loc 1, .lst (turnP.map pairV)]) (S1 := S1) rfl rfl e2))))) rfl e4)
      exact ⟨_, S', _, S4, rfl, (dSeq_nx f2).trans ((dSeq_nx f3).trans rfl), _, I4, A, B, rfl, p.put hne (hq5 q hq), b4, (hkp.trans k1).trans (k2.grow.trans k4)⟩) n 0 (G M Q none none none) S (by rw [rngD_len]; omega) ⟨M, none, none, none, rfl, p, b, .refl⟩
  exact ⟨M', S3, dFn_rt (G' := G M' Q d4 d5 d6) ((dSeq_nx f1).trans ((dSeq_nx ((dFor_of hr).trans e3)).trans (dRetS_of rfl))), p3, b3, k3⟩
end
end Vw
set_option maxRecDepth 100000
set_option maxHeartbeats 4000000
namespace Vw
open PySem PySem.Spec L2
def d_fdranked : DS :=
    (dSeq (dAsg (dTup (dCons (dCallF 2 (dCons (dVar 0) (dCons (dLrg false (dVar 1)) dNil)) fn_fdmixed) (dCons (dLc true [7] (dRng1 (dCons (dVar 1) dNil)) (dgName 7) dYes (dBin (opMulA true) (dLst false (dCons (dCon (.str ("-" : Str))) dNil)) (dVar 1))) dNil))) (dgTup 2 (dgCons (dgName 3) (dgCons (dgName 4) dgNil))))
    (dSeq (dFor (dRng1 (dCons (dVar 1) dNil)) (dgName 5)
    (dSeq (dFor (dRng1 (dCons (dVar 5) dNil)) (dgName 6)
    (dSeq (dAsg (dTup (dCons (dBin opIx (dVar 3) (dVar 6)) (dCons (dBin opIx (dVar 3) (dVar 5)) dNil))) (dgTup 2 (dgCons (dgName 7) (dgCons (dgName 8) dgNil))))
    (dSeq (dAsg (dLc false [10] (dRng1 (dCons (dVar 1) dNil)) (dgName 10) (dAnd (dCmpT (opEq false) (dBin opIx (dBin opIx (dVar 4) (dVar 7)) (dVar 10)) (dCon (.str ("even" : Str)))) (dCmpT (opEq false) (dBin opIx (dBin opIx (dVar 4) (dVar 8)) (dVar 10)) (dCon (.str ("even" : Str))))) (dVar 10)) (dgName 9))
    (dSeq (dIte (dAnd (dCmpT (opCmp fun i j => decide (i < j)) (dCallF 2 (dCons (dVar 0) (dCons (dCon (.int 10)) dNil)) fn_fddraw) (dVar 2)) (dCmpT (opEq false) (dVar 9) (dLst false dNil)))
    (dSeq (dAsg (dTup (dCons (dCon (.str ("even" : Str))) (dCons (dCon (.str ("even" : Str))) dNil))) (dgTup 2 (dgCons (dgSub (dBin opIx (dVar 4) (dVar 7)) (dVar 8)) (dgCons (dgSub (dBin opIx (dVar 4) (dVar 8)) (dVar 7)) dgNil))))
    dSkip) (dSeq (dAsg (dTup (dCons (dCon (.str ("stand" : Str))) (dCons (dCon (.str ("bow" : Str))) dNil))) (dgTup 2 (dgCons (dgSub (dBin opIx (dVar 4) (dVar 7)) (dVar 8)) (dgCons (dgSub (dBin opIx (dVar 4) (dVar 8)) (dVar 7)) dgNil))))
    dSkip))
    dSkip))))
    dSkip))
    (dSeq (dRet (dCall opTuple (dCons (dLc false [3] (dSeqI (dVar 4)) (dgName 3) dYes (dCall opTuple (dCons (dVar 3) dNil))) dNil)))
    dSkip)))
def fn_fdranked : DF := dDef 11 d_fdranked
def d_fdplain : DS :=
    (dSeq (dPar 2 3 (dCons (dCallF 2 (dCons (dVar 0) (dCons (dCon (.int 7)) dNil)) fn_fddraw) (dCons (dCallF 2 (dCons (dVar 0) (dCons (dLst false (dCons (dCon (.int 0)) (dCons (dCon (.int 2)) (dCons (dCon (.int 3)) (dCons (dCon (.int 5)) (dCons (dCon (.int 9)) dNil)))))) dNil)) fn_fdpick) dNil)))
    (dSeq (dIte (dCmpT (opEq false) (dVar 2) (dCon (.int 0)))
    (dSeq (dRet (dCallF 4 (dCons (dVar 0) (dCons (dVar 1) (dCons (dLst false (dCons (dCon (.str ("stand" : Str))) (dCons (dCon (.str ("bow" : Str))) dNil))) (dCons (dVar 3) dNil)))) fn_fdtable))
    dSkip) dSkip)
    (dSeq (dAsg (dCallF 3 (dCons (dVar 0) (dCons (dCallF 3 (dCons (dVar 0) (dCons (dVar 1) (dCons (dVar 3) dNil))) fn_fdranked) (dCons (dBin opIx (dLst false (dCons (dCon (.int 0)) (dCons (dCon (.int 0)) (dCons (dCon (.int 1)) (dCons (dCon (.int 1)) (dCons (dCon (.int 2)) (dCons (dCon (.int 3)) (dCons (dCon (.int 0)) dNil)))))))) (dVar 2)) dNil))) fn_fdturned) (dgName 4))
    (dSeq (dIte (dCmpT (opEq false) (dVar 2) (dCon (.int 6)))
    (dSeq (dAsg (dSlG false (dCallF 2 (dCons (dVar 0) (dCons (dLrg false (dVar 1)) dNil)) fn_fdmixed) doNone (doSome (dBin (opAdd false) (dCallF 2 (dCons (dVar 0) (dCons (dVar 1) dNil)) fn_fddraw) (dCon (.int 1))))) (dgName 5))
    (dSeq (dFor (dZipL (dCons (dVar 5) (dCons (dBin (opAdd false) (dSlG false (dVar 5) (doSome (dCon (.int 1))) doNone) (dSlG false (dVar 5) doNone (doSome (dCon (.int 1))))) dNil))) (dgTup 2 (dgCons (dgName 6) (dgCons (dgName 7) dgNil)))
    (dSeq (dAsg (dIf (dCmpT (opCmp fun i j => decide (j < i)) (dCall opLen (dCons (dVar 5) dNil)) (dCon (.int 2))) (dCallF 4 (dCons (dVar 4) (dCons (dVar 6) (dCons (dVar 7) (dCons (dTup (dCons (dCon (.str ("bow" : Str))) (dCons (dCon (.str ("stand" : Str))) dNil))) dNil)))) fn_fdwith) (dVar 4)) (dgName 4))
    dSkip))
    dSkip)) dSkip)
    (dSeq (dRet (dVar 4))
    dSkip)))))
def fn_fdplain : DF := dDef 8 d_fdplain
section
variable {N k : Nat} {M : Nat → Nat → Str} {S : Sto} {G : Gam} {rs : List Nat}
/-- the pairs of a row before the place i, j of it are dealt -/
structure DoneR (rs : List Nat) (k i j : Nat) (M : Nat → Nat → Str) : Prop where
  dia : ∀ a, a < k → M a a = wDash
  pair : ∀ p q, p < q → q < k → (q < i ∨ (q = i ∧ p < j)) → (M (rs.getD p 0) (rs.getD q 0), M (rs.getD q 0) (rs.getD p 0)) ∈ ps5
theorem DoneR.step {i j : Nat} {x y : Str} (hp : rs.Perm (List.range k)) (d : DoneR rs k i j M) (hji : j < i) (hi : i < k) (q5 : (x, y) ∈ ps5) : DoneR rs k i (j + 1) (upd2 (upd2 M (rs.getD j 0) (rs.getD i 0) x) (rs.getD i 0) (rs.getD j 0) y) := by
  have hne : rs.getD j 0 ≠ rs.getD i 0 := fun q => by have := cl_inj hp (i := j) (j := i) (by omega) hi q; omega
  refine ⟨fun a ha => ?_, fun p q hpq hq h => ?_⟩
  · rw [upd2_at hne, if_neg (fun z => hne (z.2.symm.trans z.1)), if_neg (fun z => hne (z.1.symm.trans z.2))]; exact d.dia a ha
  · rw [upd2_at hne, upd2_at hne]
    by_cases h1 : p = j ∧ q = i
    · obtain ⟨rfl, rfl⟩ := h1
      rw [if_neg (fun z => hne z.1), if_pos ⟨rfl, rfl⟩, if_pos ⟨rfl, rfl⟩]
      exact q5
    · have n1 : ¬ (rs.getD p 0 = rs.getD i 0 ∧ rs.getD q 0 = rs.getD j 0) := fun z => by
        have := cl_inj hp (i := p) (j := i) (by omega) hi z.1
        have := cl_inj hp (i := q) (j := j) hq (by omega) z.2
        omega
      have n2 : ¬ (rs.getD p 0 = rs.getD j 0 ∧ rs.getD q 0 = rs.getD i 0) := fun z => h1 ⟨cl_inj hp (i := p) (j := j) (by omega) (by omega) z.1, cl_inj hp (i := q) (j := i) hq hi z.2⟩
      rw [if_neg n1, if_neg n2, if_neg (fun z => n2 ⟨z.2, z.1⟩), if_neg (fun z => n1 ⟨z.2, z.1⟩)]
      exact d.pair p q hpq hq (by
        rcases h with h | h
        · exact .inl h
        · by_cases z : p = j
          · exact absurd ⟨z, h.1⟩ h1
          · exact .inr ⟨h.1, by omega⟩)
theorem DoneR.next {i : Nat} (d : DoneR rs k i i M) : DoneR rs k (i + 1) 0 M := ⟨d.dia, fun p q hpq hq h => d.pair p q hpq hq (by omega)⟩
theorem DoneR.plain (hp : rs.Perm (List.range k)) (d : DoneR rs k k 0 M) : PlainM k M := by
  refine ⟨d.dia, fun a b ha hb hne => ?_⟩
  obtain ⟨ia, ea⟩ := cl_ix hp ha
  obtain ⟨ib, eb⟩ := cl_ix hp hb
  rcases Nat.lt_trichotomy (rs.idxOf a) (rs.idxOf b) with h | h | h
  · have := d.pair _ _ h ib (.inl ib)
    rwa [ea, eb] at this
  · exact absurd (by rw [← ea, ← eb, h]) hne
  · have := ps5_swap _ (d.pair _ _ h ia (.inl ia))
    rwa [ea, eb] at this
abbrev frB : DS := (dSeq (dAsg (dTup (dCons (dBin opIx (dVar 3) (dVar 6)) (dCons (dBin opIx (dVar 3) (dVar 5)) dNil))) (dgTup 2 (dgCons (dgName 7) (dgCons (dgName 8) dgNil))))
    (dSeq (dAsg (dLc false [10] (dRng1 (dCons (dVar 1) dNil)) (dgName 10) (dAnd (dCmpT (opEq false) (dBin opIx (dBin opIx (dVar 4) (dVar 7)) (dVar 10)) (dCon (.str ("even" : Str)))) (dCmpT (opEq false) (dBin opIx (dBin opIx (dVar 4) (dVar 8)) (dVar 10)) (dCon (.str ("even" : Str))))) (dVar 10)) (dgName 9))
    (dSeq (dIte (dAnd (dCmpT (opCmp fun i j => decide (i < j)) (dCallF 2 (dCons (dVar 0) (dCons (dCon (.int 10)) dNil)) fn_fddraw) (dVar 2)) (dCmpT (opEq false) (dVar 9) (dLst false dNil)))
    (dSeq (dAsg (dTup (dCons (dCon (.str ("even" : Str))) (dCons (dCon (.str ("even" : Str))) dNil))) (dgTup 2 (dgCons (dgSub (dBin opIx (dVar 4) (dVar 7)) (dVar 8)) (dgCons (dgSub (dBin opIx (dVar 4) (dVar 8)) (dVar 7)) dgNil))))
    dSkip) (dSeq (dAsg (dTup (dCons (dCon (.str ("stand" : Str))) (dCons (dCon (.str ("bow" : Str))) dNil))) (dgTup 2 (dgCons (dgSub (dBin opIx (dVar 4) (dVar 7)) (dVar 8)) (dgCons (dgSub (dBin opIx (dVar 4) (dVar 8)) (dVar 7)) dgNil))))
    dSkip))
    dSkip)))
abbrev frR : DS := (dSeq (dFor (dRng1 (dCons (dVar 5) dNil)) (dgName 6)
    frB)
    dSkip)
theorem ix_gw {L a b : Nat} (g : GridW L k M S) (ha : a < k) (hb : b < k) (hk : k ≤ 10) : opIx (.loc (L + a)) (.int (b : Nat)) S = some (.str (M a b), S) := ix_seq' (seqD_loc (g.row a ha)) (rowD_get hb)
theorem fr_pair {m : Int} {L n i j : Nat} {S0 : Sto} {d7 d8 d9 d10 : Option D} (g : GridW L k M S) (hp : rs.Perm (List.range k)) (dn : DoneR rs k i j M) (hji : j < i) (hi : i < k) (hk : k ≤ 10) (b : Fek N S) (kp : KeepG N S0 S) (h0 : S0.length ≤ L) (hN : N ≤ S0.length) (hn : N ≤ n) (hnl : n < S0.length) (c0 : S0[n]? = some (Cell.lst (intL (natL rs)))) :
    ∃ (S2 : Sto) (M2 : Nat → Nat → Str) (e7 e8 e9 e10 : Option D), frB [some (.loc 1), some (.int k), some (.int m), some (.loc n), some (.loc (L + k)), some (.int i), some (.int j), d7, d8, d9, d10] S = some (.nx, [some (.loc 1), some (.int k), some (.int m), some (.loc n), some (.loc (L + k)), some (.int i), some (.int j), e7, e8, e9, e10], S2) ∧ GridW L k M2 S2 ∧ DoneR rs k i (j + 1) M2 ∧ Fek N S2 ∧ KeepG N S0 S2 := by
  let G (d7 d8 d9 d10 : Option D) : Gam := [some (.loc 1), some (.int k), some (.int m), some (.loc n), some (.loc (L + k)), some (.int i), some (.int j), d7, d8, d9, d10]
  have hrl : rs.length = k := by rw [hp.length_eq, List.length_range]
  have c1 : S[n]? = some (Cell.lst (intL (natL rs))) := (kp.at_ _ hn hnl).trans c0
  let a := rs.getD j 0
  let z := rs.getD i 0
  have at_ : ∀ t, t < k → opIx (.loc n) (.int (t : Nat)) S = some (.int (rs.getD t 0 : Nat), S) := fun t ht => ix_seq' (seqD_loc c1) (by rw [natL_get, List.getElem?_eq_getElem (by omega), List.getD_eq_getElem?_getD, List.getElem?_eq_getElem (by omega)]; rfl)
  obtain ⟨ha, _⟩ := cl_get hp (j := j) (by omega)
  obtain ⟨hz, _⟩ := cl_get hp (j := i) hi
  let A : Option D := some (.int (a : Nat))
  let Z : Option D := some (.int (z : Nat))
  have f1 : dAsg (dTup (dCons (dBin opIx (dVar 3) (dVar 6)) (dCons (dBin opIx (dVar 3) (dVar 5)) dNil))) (dgTup 2 (dgCons (dgName 7) (dgCons (dgName 8) dgNil))) (G d7 d8 d9 d10) S = some (.nx, G A Z d9 d10, S) :=
    dAsgG_of (d := .tup [.int (a : Nat), .int (z : Nat)]) (S1 := S) (dTup_of (dCons_of (dBin_of (x := .loc n) (y := .int (j : Nat)) (S1 := S) (S2 := S) rfl rfl (at_ j (by omega))) (dOne_of (dBin_of (x := .loc n) (y := .int (i : Nat)) (S1 := S) (S2 := S) rfl rfl (at_ i hi)))) (by show 2 ≤ 1000000; decide)) rfl
  have hr := rng1_ok (fs := dCons (dVar 1) dNil) (k := k) (G := G A Z d9 d10) (S := S) rfl (by omega)
  rw [rng_map] at hr
  let pr : Nat → Bool := fun h => decide (M a h = wEven) && decide (M z h = wEven)
  have e1 := lc_pure (c := false) (own := [10]) (g := dgName 10) (t := dAnd (dCmpT (opEq false) (dBin opIx (dBin opIx (dVar 4) (dVar 7)) (dVar 10)) (dCon (.str ("even" : Str)))) (dCmpT (opEq false) (dBin opIx (dBin opIx (dVar 4) (dVar 8)) (dVar 10)) (dCon (.str ("even" : Str))))) (f := dVar 10) (G := G A Z d9 d10) (l := List.range k) (e := fun h => D.int (h : Nat)) hr (by rw [List.length_range]) fix_src pr (fun h => D.int (h : Nat)) fun h hh => by
    have hh := List.mem_range.mp hh
    refine ⟨G A Z d9 (some (.int (h : Nat))), rfl, dAnd_of (x := decide (M a h = wEven)) (y := decide (M z h = wEven)) (dCmpT_of (dBin_of (x := .loc (L + a)) (y := .int (h : Nat)) (S1 := S) (S2 := S) (dBin_of (x := .loc (L + k)) (y := .int (a : Nat)) (S1 := S) (S2 := S) rfl rfl (g.ix ha)) rfl (ix_gw g ha hh hk)) rfl eq_str) (dCmpT_of (dBin_of (x := .loc (L + z)) (y := .int (h : Nat)) (S1 := S) (S2 := S) (dBin_of (x := .loc (L + k)) (y := .int (z : Nat)) (S1 := S) (S2 := S) rfl rfl (g.ix hz)) rfl (ix_gw g hz hh hk)) rfl eq_str), fun _ => rfl⟩
  let fs := natL ((List.range k).filter pr)
  rw [show ((List.range k).filter pr).map (fun h : Nat => D.int (h : Nat)) = intL fs from by show _ = (((List.range k).filter pr).map fun j : Nat => (j : Int)).map D.int; rw [List.map_map]; rfl, okv (by rw [intL_len, natL_len]; have := List.length_filter_le pr (List.range k); rw [List.length_range] at this; omega)] at e1
  let C : Option D := some (.lst (intL fs))
  have f2 : dAsg (dLc false [10] (dRng1 (dCons (dVar 1) dNil)) (dgName 10) (dAnd (dCmpT (opEq false) (dBin opIx (dBin opIx (dVar 4) (dVar 7)) (dVar 10)) (dCon (.str ("even" : Str)))) (dCmpT (opEq false) (dBin opIx (dBin opIx (dVar 4) (dVar 8)) (dVar 10)) (dCon (.str ("even" : Str))))) (dVar 10)) (dgName 9) (G A Z d9 d10) S = some (.nx, G A Z C d10, S) := dAsg_of e1
  let G2 : Gam := G A Z C d10
  obtain ⟨r, S1, e3, _, b1, k1⟩ := fd_draw (size := 10) b (by decide) (by decide)
  have kp1 := kp.trans k1.grow
  have g1 : GridW L k M S1 := g.keep k1.grow (by omega)
  have cd : dCmpT (opCmp fun i j => decide (i < j)) (dCallF 2 (dCons (dVar 0) (dCons (dCon (.int 10)) dNil)) fn_fddraw) (dVar 2) G2 S = some (decide ((r : Int) < m), S1) := dCmpT_of (dCallF_of (ds := [.loc 1, .int 10]) (S1 := S) rfl rfl e3) (y := .int m) (S2 := S1) rfl lt_int
  have ce : dCmpT (opEq false) (dVar 9) (dLst false dNil) G2 S1 = some (decide (fs = []), S1) := dCmpT_of (x := .lst (intL fs)) (y := .lst []) (S1 := S1) (S2 := S1) rfl rfl eq_own
  have c3 : ∃ bb, dAnd (dCmpT (opCmp fun i j => decide (i < j)) (dCallF 2 (dCons (dVar 0) (dCons (dCon (.int 10)) dNil)) fn_fddraw) (dVar 2)) (dCmpT (opEq false) (dVar 9) (dLst false dNil)) G2 S = some (bb, S1) := by
    by_cases hc : (r : Int) < m
    · rw [decide_eq_true hc] at cd
      exact ⟨_, (dAnd_go cd).trans ce⟩
    · rw [decide_eq_false hc] at cd
      exact ⟨_, dAnd_no cd⟩
  obtain ⟨bb, c3⟩ := c3
  have fin : ∀ (x y : Str), (x, y) ∈ ps5 → ∃ S2, dAsg (dTup (dCons (dCon (.str x)) (dCons (dCon (.str y)) dNil))) (dgTup 2 (dgCons (dgSub (dBin opIx (dVar 4) (dVar 7)) (dVar 8)) (dgCons (dgSub (dBin opIx (dVar 4) (dVar 8)) (dVar 7)) dgNil))) G2 S1 = some (.nx, G2, S2) ∧ GridW L k (upd2 (upd2 M a z x) z a y) S2 ∧ Fek N S2 ∧ KeepG N S0 S2 := fun x y _ =>
    fg_pair (G := G2) (r := 4) (i := 7) (j := 8) (a := a) (b := z) (x := x) (y := y) (f := dTup (dCons (dCon (.str x)) (dCons (dCon (.str y)) dNil))) (S0 := S1) (dTup_of (ds := [.str x, .str y]) rfl (by show 2 ≤ 1000000; decide)) g1 (fun _ => rfl) (fun _ => rfl) (fun _ => rfl) ha hz b1 kp1 h0 hN
  cases bb with
  | true =>
    obtain ⟨S2, e4, g4, b4, k4⟩ := fin "even" "even" (by decide)
    exact ⟨S2, _, A, Z, C, d10, (dSeq_nx f1).trans ((dSeq_nx f2).trans ((dSeq_nx ((dIte_t c3).trans ((dSeq_nx e4).trans rfl))).trans rfl)), g4, dn.step hp hji hi (by decide), b4, k4⟩
  | false =>
    obtain ⟨S2, e4, g4, b4, k4⟩ := fin "stand" "bow" (by decide)
    exact ⟨S2, _, A, Z, C, d10, (dSeq_nx f1).trans ((dSeq_nx f2).trans ((dSeq_nx ((dIte_f c3).trans ((dSeq_nx e4).trans rfl))).trans rfl)), g4, dn.step hp hji hi (by decide), b4, k4⟩
theorem fd_ranked {m : Int} (b : Fek N S) (hN : N ≤ S.length) (hk : k ≤ 10) :
    ∃ M S', fn_fdranked [.loc 1, .int k, .int m] S = some (gridD k M, S') ∧ PlainM k M ∧ Fek N S' ∧ KeepG N S S' := by
  let G (d3 d4 d5 d6 d7 d8 d9 d10 : Option D) : Gam := [some (.loc 1), some (.int k), some (.int m), d3, d4, d5, d6, d7, d8, d9, d10]
  let G0 : Gam := G none none none none none none none none
  obtain ⟨rs, S1, e1, c1, hrs, b1, l1, k1⟩ := fd_rowE (k := k) (f := dVar 1) (G := G0) b hN (by omega) rfl rfl
  have hN1 : N ≤ S1.length := by omega
  have hr := rng1_ok (fs := dCons (dVar 1) dNil) (k := k) (G := G0) (S := S1) rfl (by omega)
  obtain ⟨S2, ec, g0, hl0, b0, k0⟩ := fg_new (v := 7) (u := 1) (G := G0) b1 hN1 hk hr (fun _ _ => rfl)
  let L := S1.length
  let R : Option D := some (.loc (S.length + 1))
  let T : Option D := some (.loc (L + k))
  have f1 : dAsg (dTup (dCons (dCallF 2 (dCons (dVar 0) (dCons (dLrg false (dVar 1)) dNil)) fn_fdmixed) (dCons (dLc true [7] (dRng1 (dCons (dVar 1) dNil)) (dgName 7) dYes (dBin (opMulA true) (dLst false (dCons (dCon (.str ("-" : Str))) dNil)) (dVar 1))) dNil))) (dgTup 2 (dgCons (dgName 3) (dgCons (dgName 4) dgNil))) G0 S = some (.nx, G R T none none none none none none, S2) :=
    dAsgG_of (d := .tup [.loc (S.length + 1), .loc (L + k)]) (S1 := S2) (dTup_of (dCons_of e1 (dOne_of ec)) (by show 2 ≤ 1000000; decide)) rfl
  have hr2 := rng1_ok (fs := dCons (dVar 1) dNil) (k := k) (G := G R T none none none none none none) (S := S2) rfl (by omega)
  obtain ⟨G3, S3, e3, M, d5, d6, d7, d8, d9, d10, rfl, g3, dn3, b3, k3⟩ := for_inv (src := fixS (rngD 0 (k : Int))) (g := dgName 5) (b := frR) (ds := rngD 0 (k : Int))
    (fun i G' S' => ∃ M d5 d6 d7 d8 d9 d10, G' = G R T d5 d6 d7 d8 d9 d10 ∧ GridW L k M S' ∧ DoneR rs k i 0 M ∧ Fek N S' ∧ KeepG N S1 S') (fun i G' S' h => rfl)
    (fun i G' S' d hd h => by
      obtain ⟨M, d5, d6, d7, d8, d9, d10, rfl, g, dn, hb, hkp⟩ := h
      have hi : i < k := by have := (List.getElem?_eq_some_iff.mp hd).1; rwa [rngD_len] at this
      rw [rngD_get hi] at hd
      cases hd
      let I : Option D := some (.int (i : Nat))
      have hrr := rng1_ok (fs := dCons (dVar 5) dNil) (k := i) (G := G R T I d6 d7 d8 d9 d10) (S := S') rfl (by omega)
      obtain ⟨G4, S4, e4, M4, d6', d7', d8', d9', d10', rfl, g4, dn4, b4, k4⟩ := for_inv (src := fixS (rngD 0 (i : Int))) (g := dgName 6) (b := frB) (ds := rngD 0 (i : Int))
        (fun t G' S' => ∃ M d6 d7 d8 d9 d10, G' = G R T I d6 d7 d8 d9 d10 ∧ GridW L k M S' ∧ DoneR rs k i t M ∧ Fek N S' ∧ KeepG N S1 S') (fun t G' S' h => rfl)
        (fun t G' S' d hd h => by
          obtain ⟨M, d6, d7, d8, d9, d10, rfl, g, dn, hb, hkp⟩ := h
          have ht : t < i := by have := (List.getElem?_eq_some_iff.mp hd).1; rwa [rngD_len] at this
          rw [rngD_get ht] at hd
          cases hd
          obtain ⟨S5, M5, e7, e8, e9, e10, e, g5, dn5, b5, k5⟩ := fr_pair (m := m) (n := S.length + 1) (i := i) (j := t) (d7 := d7) (d8 := d8) (d9 := d9) (d10 := d10) g hrs dn ht hi hk hb hkp (Nat.le_refl _) hN1 (by omega) (by omega) c1
          exact ⟨_, S', _, S5, rfl, e, M5, _, e7, e8, e9, e10, rfl, g5, dn5, b5, k5⟩) i 0 (G R T I d6 d7 d8 d9 d10) S' (by rw [rngD_len]; omega) ⟨M, d6, d7, d8, d9, d10, rfl, g, dn, hb, hkp⟩
      rw [rngD_len] at dn4
      exact ⟨_, S', _, S4, rfl, (dSeq_nx ((dFor_of hrr).trans e4)).trans rfl, M4, I, d6', d7', d8', d9', d10', rfl, g4, dn4.next, b4, k4⟩) k 0 (G R T none none none none none none) S2 (by rw [rngD_len]; omega) ⟨_, none, none, none, none, none, none, rfl, g0, ⟨fun a _ => rfl, fun p q _ _ h => by omega⟩, b0, k0⟩
  rw [rngD_len] at dn3
  have y1 := fg_out (v := 3) (u := 4) (G := G R T d5 d6 d7 d8 d9 d10) g3 hk rfl (by show 3 < 11; decide)
  exact ⟨M, S3, dFn_rt (G' := G R T d5 d6 d7 d8 d9 d10) ((dSeq_nx f1).trans ((dSeq_nx ((dFor_of hr2).trans e3)).trans (dRetS_of y1))), dn3.plain hrs, b3, k1.trans k3⟩
end
end Vw
set_option maxRecDepth 100000
set_option maxHeartbeats 4000000
namespace Vw
open PySem PySem.Spec L2
def d_fdbag (c : Int) : DS :=
    (dSeq (dAsg (dBin (opAdd false) (dCon (.int c)) (dBin (opMulA false) (dCon (.int 11)) (dCall opLen (dCons (dVar 0) dNil)))) (dgName 1))
    (dSeq (dFor (dSeqI (dSlG false (dVar 0) doNone (doSome (dCon (.int 63))))) (dgName 2)
    (dSeq (dAsg (dBin opMod (dCall opInt (dCons (dBin (opAdd false) (dBin (opAdd false) (dBin (opAdd false) (dBin (opMulA false) (dVar 1) (dCon (.int 6364136223846793005))) (dBin (opMulA false) (dCon (.int 2)) (dCall opAbs (dCons (dVar 2) dNil)))) (dCall opInt (dCons (dBin (opCmp fun i j => decide (i < j)) (dVar 2) (dCon (.int 0))) dNil))) (dCon (.int 1))) dNil)) (dCon (.int 18446744073709551557))) (dgName 1))
    dSkip))
    (dSeq (dAsg (dLc true [2] (dSeqI (dSlG false (dVar 0) doNone (doSome (dCon (.int 63))))) (dgName 2) (dCmpT (opCmp fun i j => decide (j ≤ i)) (dCall opAbs (dCons (dVar 2) dNil)) (dCon (.int 1000000000000000))) (dCall opAbs (dCons (dVar 2) dNil))) (dgName 3))
    (dSeq (dRet (dDisp true [.inr ("far" : Str), .inr ("one" : Str), .inr ("turn" : Str)] (dCons (dVar 3) (dCons (dVar 1) (dCons (dCon (.int 0)) dNil)))))
    dSkip))))
def fn_fdbag (c : Int) : DF := dDef 4 (d_fdbag c)
theorem fd_bag {c : Int} (ns : List Int) (hl : ns.length ≤ 63) : ∃ S', fn_fdbag c [.scr (intL ns)] [] = some (.loc 1, S') ∧ Fek S'.length S' := by
  obtain ⟨ms, hms, hml⟩ := cut_ints ns none (some 63)
  let G (d1 d2 d3 : Option D) : Gam := [some (.scr (intL ns)), d1, d2, d3]
  have hlen : opLen [.scr (intL ns)] [] = some (.int (ns.length : Nat), []) := by
    have := len_seq (S := []) (x := .scr (intL ns)) rfl
    rwa [intL_len] at this
  have f1 : dAsg (dBin (opAdd false) (dCon (.int c)) (dBin (opMulA false) (dCon (.int 11)) (dCall opLen (dCons (dVar 0) dNil)))) (dgName 1) (G none none none) [] = some (.nx, G (some (.int (c + 11 * (ns.length : Nat)))) none none, []) :=
    dAsg_of (dBin_of (x := .int c) (S1 := []) rfl (dBin_of (x := .int 11) (S1 := []) rfl (dCall_of (dOne_of (d := .scr (intL ns)) (S1 := []) rfl) hlen) (mulA_l (by decide +kernel))) add_int)
  have q : ∀ G : Gam, G[0]? = some (some (.scr (intL ns))) → dSlG false (dVar 0) doNone (doSome (dCon (.int 63))) G [] = some (.lst (intL ms), []) := fun G hg => by
    unfold dSlG
    rw [dVar_at hg]
    show okLst false (cutD (intL ns) none (some 63)) [] = _
    rw [hms]
    exact okv (by rw [intL_len]; omega)
  have hw : ∀ G : Gam, G[0]? = some (some (.scr (intL ns))) → dSeqI (dSlG false (dVar 0) doNone (doSome (dCon (.int 63)))) G [] = some (fixS (intL ms), ms.length + 1, []) := fun G hg => by
    unfold dSeqI
    rw [q G hg]
    simp only [Option.bind_some, srcD, seqD, Option.map_some, intL_len]
  have ab : ∀ (z : Int) (S : Sto), opAbs [.int z] S = some (.int (if z < 0 then -z else z), S) := fun z S => rfl
  obtain ⟨G3, S3, e3, mx, d2, rfl, rfl⟩ := for_inv (src := fixS (intL ms)) (g := dgName 2) (b := (dSeq (dAsg (dBin opMod (dCall opInt (dCons (dBin (opAdd false) (dBin (opAdd false) (dBin (opAdd false) (dBin (opMulA false) (dVar 1) (dCon (.int 6364136223846793005))) (dBin (opMulA false) (dCon (.int 2)) (dCall opAbs (dCons (dVar 2) dNil)))) (dCall opInt (dCons (dBin (opCmp fun i j => decide (i < j)) (dVar 2) (dCon (.int 0))) dNil))) (dCon (.int 1))) dNil)) (dCon (.int 18446744073709551557))) (dgName 1))
    dSkip)) (ds := intL ms)
    (fun i G' S' => ∃ (mx : Int) (d2 : Option D), G' = G (some (.int mx)) d2 none ∧ [] = S') (fun i G' S' h => rfl)
    (fun i G' S' d hd h => by
      obtain ⟨mx, d2, rfl, rfl⟩ := h
      have hi : i < ms.length := by have := (List.getElem?_eq_some_iff.mp hd).1; rwa [intL_len] at this
      rw [intL_get hi] at hd
      cases hd
      generalize ms[i] = z
      exact ⟨G (some (.int mx)) (some (.int z)) none, [], _, [], rfl, (dSeq_nx (dAsg_of (dBin_of (dCall_of (dOne_of (dBin_of (dBin_of (dBin_of (dBin_of (x := .int mx) (y := .int 6364136223846793005) (S1 := []) (S2 := []) rfl rfl (mulA_r (by decide +kernel))) (dBin_of (x := .int 2) (S1 := []) rfl (dCall_of (dOne_of (d := .int z) (S1 := []) rfl) (ab z [])) (mulA_l (by decide +kernel))) add_int) (dCall_of (dOne_of (dBin_of (x := .int z) (y := .int 0) (S1 := []) (S2 := []) rfl rfl lt_int)) (show opInt [.bl (decide (z < 0))] [] = some (.int (if decide (z < 0) = true then 1 else 0), []) from rfl)) add_int) rfl add_int)) int_int) rfl (mod_int (by decide))))).trans rfl, _, some (.int z), rfl, rfl⟩) ms.length 0 (G (some (.int (c + 11 * (ns.length : Nat)))) none none) [] (by rw [intL_len]; omega) ⟨_, none, rfl, rfl⟩
  have f3 := (dFor_of (hw (G (some (.int (c + 11 * (ns.length : Nat)))) none none) rfl)).trans e3
  let ab1 : Int → Int := fun z => if z < 0 then -z else z
  have e4 := lc_pure (c := true) (own := [2]) (g := dgName 2) (t := dCmpT (opCmp fun i j => decide (j ≤ i)) (dCall opAbs (dCons (dVar 2) dNil)) (dCon (.int 1000000000000000))) (f := dCall opAbs (dCons (dVar 2) dNil)) (G := G (some (.int mx)) d2 none) (l := ms) (e := D.int) (hw _ rfl) (by omega) fix_src (fun z => decide ((1000000000000000 : Int) ≤ ab1 z)) (fun z => D.int (ab1 z)) fun z hz =>
    ⟨G (some (.int mx)) (some (.int z)) none, rfl, dCmpT_of (dCall_of (dOne_of (d := .int z) (S1 := []) rfl) (ab z [])) (y := .int 1000000000000000) (S2 := []) rfl ge_int, fun _ => dCall_of (dOne_of (d := .int z) (S1 := []) rfl) (ab z [])⟩
  let far := (ms.filter fun z => decide ((1000000000000000 : Int) ≤ ab1 z)).map ab1
  have hfl : far.length ≤ ms.length := by show (List.map _ _).length ≤ _; rw [List.length_map]; exact List.length_filter_le _ _
  rw [show (ms.filter fun z => decide ((1000000000000000 : Int) ≤ ab1 z)).map (fun z => D.int (ab1 z)) = far.map D.int from by show _ = (List.map _ _).map _; rw [List.map_map]; rfl] at e4
  have e4 := e4.trans (okc (by rw [List.length_map]; show far.length ≤ 1000000; omega))
  let S0 : Sto := [Cell.lst (far.map D.int), Cell.dic KF [.loc 0, .int mx, .int 0]]
  refine ⟨S0, dFn_rt (G' := G (some (.int mx)) d2 (some (.loc 0))) ((dSeq_nx f1).trans ((dSeq_nx f3).trans ((dSeq_nx (dAsg_of e4)).trans (dRetS_of ?_)))), ⟨0, far, mx, 0, rfl, rfl, by decide, by show 0 < 2; decide, by show 1 < 2; decide, fun z hz => ?_, by omega⟩⟩
  · unfold dDisp
    rw [dCons_of (d := .loc 0) (S1 := [Cell.lst (far.map D.int)]) rfl (dCons_of (S1 := [Cell.lst (far.map D.int)]) (d := .int mx) rfl (dOne_of (d := .int 0) rfl))]
    rfl
  · obtain ⟨w, _, rfl⟩ := List.mem_map.mp hz
    show 0 ≤ if w < 0 then -w else w
    split <;> omega
section
variable {N k : Nat} {M : Nat → Nat → Str} {S : Sto} {G : Gam} {q : List Nat}
/-- each hand of a row and the one behind it, round -/
def rndL (q : List Nat) : List (Nat × Nat) := (List.range q.length).map fun t => (q.getD t 0, q.getD ((t + 1) % q.length) 0)
theorem rnd_fst : (rndL q).map (fun p => D.int (p.1 : Nat)) = intL (natL q) := by
  refine List.ext_getElem (by rw [List.length_map, intL_len, natL_len]; unfold rndL; rw [List.length_map, List.length_range]) fun i h1 h2 => ?_
  have hi : i < q.length := by rwa [intL_len, natL_len] at h2
  simp [rndL, intL, natL, hi]
theorem rnd_snd (hq : 0 < q.length) : (rndL q).map (fun p => D.int (p.2 : Nat)) = intL (natL (q.drop 1 ++ q.take 1)) := by
  refine List.ext_getElem (by rw [List.length_map, intL_len, natL_len]; unfold rndL; rw [List.length_map, List.length_range, List.length_append, List.length_drop, List.length_take]; omega) fun i h1 h2 => ?_
  have hi : i < q.length := by rw [List.length_map] at h1; unfold rndL at h1; rwa [List.length_map, List.length_range] at h1
  simp only [rndL, intL, natL, List.getElem_map, List.getElem_range]
  congr 2
  by_cases h : i + 1 < q.length
  · rw [Nat.mod_eq_of_lt h, List.getElem_append_left (by rw [List.length_drop]; omega), List.getElem_drop, List.getD_eq_getElem?_getD, List.getElem?_eq_getElem h]
    simp only [Option.getD_some]
    congr 1; omega
  · have e : i + 1 = q.length := by omega
    rw [e, Nat.mod_self, List.getElem_append_right (by rw [List.length_drop]; omega), List.getElem_take, List.getD_eq_getElem?_getD, List.getElem?_eq_getElem hq]
    simp only [Option.getD_some, List.length_drop]
    congr 1; omega
theorem rnd_ne (nd : q.Nodup) (h2 : 2 ≤ q.length) {p : Nat × Nat} (hp : p ∈ rndL q) : p.1 ∈ q ∧ p.2 ∈ q ∧ p.1 ≠ p.2 := by
  obtain ⟨t, ht, rfl⟩ := List.mem_map.mp hp
  have ht := List.mem_range.mp ht
  have hm : (t + 1) % q.length < q.length := Nat.mod_lt _ (by omega)
  have e1 : q.getD t 0 = q[t] := by rw [List.getD_eq_getElem?_getD, List.getElem?_eq_getElem ht]; rfl
  have e2 : q.getD ((t + 1) % q.length) 0 = q[(t + 1) % q.length] := by rw [List.getD_eq_getElem?_getD, List.getElem?_eq_getElem hm]; rfl
  show q.getD t 0 ∈ q ∧ q.getD ((t + 1) % q.length) 0 ∈ q ∧ q.getD t 0 ≠ q.getD ((t + 1) % q.length) 0
  rw [e1, e2]
  refine ⟨List.getElem_mem _, List.getElem_mem _, fun z => ?_⟩
  have := (List.getElem_inj nd).mp z
  by_cases h : t + 1 < q.length
  · rw [Nat.mod_eq_of_lt h] at this; omega
  · rw [show t + 1 = q.length by omega, Nat.mod_self] at this; omega
abbrev fpB : DS := (dSeq (dAsg (dIf (dCmpT (opCmp fun i j => decide (j < i)) (dCall opLen (dCons (dVar 5) dNil)) (dCon (.int 2))) (dCallF 4 (dCons (dVar 4) (dCons (dVar 6) (dCons (dVar 7) (dCons (dTup (dCons (dCon (.str ("bow" : Str))) (dCons (dCon (.str ("stand" : Str))) dNil))) dNil)))) fn_fdwith) (dVar 4)) (dgName 4))
    dSkip)
abbrev fpC : DS := (dIte (dCmpT (opEq false) (dVar 2) (dCon (.int 6)))
    (dSeq (dAsg (dSlG false (dCallF 2 (dCons (dVar 0) (dCons (dLrg false (dVar 1)) dNil)) fn_fdmixed) doNone (doSome (dBin (opAdd false) (dCallF 2 (dCons (dVar 0) (dCons (dVar 1) dNil)) fn_fddraw) (dCon (.int 1))))) (dgName 5))
    (dSeq (dFor (dZipL (dCons (dVar 5) (dCons (dBin (opAdd false) (dSlG false (dVar 5) (doSome (dCon (.int 1))) doNone) (dSlG false (dVar 5) doNone (doSome (dCon (.int 1))))) dNil))) (dgTup 2 (dgCons (dgName 6) (dgCons (dgName 7) dgNil)))
    fpB)
    dSkip)) dSkip)
theorem fp_ring {m : Int} {fk : Nat} {d5 d6 d7 : Option D} (b : Fek N S) (hN : N ≤ S.length) (hk : k ≤ 10) (h2 : 2 ≤ k) (p : PlainM k M) :
    ∃ M' e5 e6 e7 S', fpC [some (.loc 1), some (.int k), some (.int (fk : Nat)), some (.int m), some (gridD k M), d5, d6, d7] S = some (.nx, [some (.loc 1), some (.int k), some (.int (fk : Nat)), some (.int m), some (gridD k M'), e5, e6, e7], S') ∧ PlainM k M' ∧ Fek N S' ∧ KeepG N S S' := by
  let G (M : Nat → Nat → Str) (d5 d6 d7 : Option D) : Gam := [some (.loc 1), some (.int k), some (.int (fk : Nat)), some (.int m), some (gridD k M), d5, d6, d7]
  have c : dCmpT (opEq false) (dVar 2) (dCon (.int 6)) (G M d5 d6 d7) S = some (decide ((fk : Int) = 6), S) := dCmpT_of (x := .int (fk : Nat)) (y := .int 6) (S1 := S) (S2 := S) rfl rfl eq_int
  by_cases hf : (fk : Int) = 6
  · rw [decide_eq_true hf] at c
    obtain ⟨rs, S1, e1, c1, hrs, b1, l1, k1⟩ := fd_rowE (k := k) (f := dVar 1) (G := G M d5 d6 d7) b hN (by omega) rfl rfl
    have hrl : rs.length = k := by rw [hrs.length_eq, List.length_range]
    have hN1 : N ≤ S1.length := by omega
    obtain ⟨r, S2, e2, hr, b2, k2⟩ := fd_draw (size := ((k : Nat) : Int)) b1 (by omega) (by omega)
    have hN2 : N ≤ S2.length := by rw [k2.len]; exact hN1
    have s1 := cut_mix (G := G M d5 d6 d7) (fh := doSome (dBin (opAdd false) (dCallF 2 (dCons (dVar 0) (dCons (dVar 1) dNil)) fn_fddraw) (dCon (.int 1)))) (m := r + 1) (S2 := S2) e1 c1 (k2.at_ _ (by omega)) (by
      have q : dBin (opAdd false) (dCallF 2 (dCons (dVar 0) (dCons (dVar 1) dNil)) fn_fddraw) (dCon (.int 1)) (G M d5 d6 d7) S1 = some (.int ((r + 1 : Nat) : Int), S2) := dBin_of (dCallF_of (ds := [.loc 1, .int (k : Nat)]) (S1 := S1) rfl rfl e2) rfl rfl
      unfold doSome
      rw [q]; rfl) (by omega) (by omega)
    let q := rs.take (r + 1)
    have hql : q.length = r + 1 := by show (rs.take _).length = _; rw [List.length_take]; omega
    have nd : q.Nodup := (hrs.nodup_iff.mpr List.nodup_range).sublist (List.take_sublist _ _)
    have hlt : ∀ a ∈ q, a < k := fun a ha => List.mem_range.mp (hrs.mem_iff.mp (List.mem_of_mem_take ha))
    let Q : Option D := some (.lst (intL (natL q)))
    have f5 : dAsg (dSlG false (dCallF 2 (dCons (dVar 0) (dCons (dLrg false (dVar 1)) dNil)) fn_fdmixed) doNone (doSome (dBin (opAdd false) (dCallF 2 (dCons (dVar 0) (dCons (dVar 1) dNil)) fn_fddraw) (dCon (.int 1))))) (dgName 5) (G M d5 d6 d7) S = some (.nx, G M Q d6 d7, S2) := dAsg_of s1
    have x1 : dSlG false (dVar 5) (doSome (dCon (.int 1))) doNone (G M Q d6 d7) S2 = some (.lst (intL (natL (q.drop 1))), S2) := by
      show okLst false (cutD (intL (natL q)) (some ((1 : Nat) : Int)) none) S2 = _
      rw [cut_drop (by rw [intL_len, natL_len]; omega), show (intL (natL q)).drop 1 = intL (natL (q.drop 1)) from by show ((q.map _).map _).drop 1 = _; rw [← List.map_drop, ← List.map_drop]; rfl]
      exact okv (by rw [intL_len, natL_len, List.length_drop]; omega)
    have x2 : dSlG false (dVar 5) doNone (doSome (dCon (.int 1))) (G M Q d6 d7) S2 = some (.lst (intL (natL (q.take 1))), S2) := by
      show okLst false (cutD (intL (natL q)) none (some ((1 : Nat) : Int))) S2 = _
      rw [cut_take (by rw [intL_len, natL_len]; omega), show (intL (natL q)).take 1 = intL (natL (q.take 1)) from by show ((q.map _).map _).take 1 = _; rw [← List.map_take, ← List.map_take]; rfl]
      exact okv (by rw [intL_len, natL_len, List.length_take]; omega)
    have x3 : dBin (opAdd false) (dSlG false (dVar 5) (doSome (dCon (.int 1))) doNone) (dSlG false (dVar 5) doNone (doSome (dCon (.int 1)))) (G M Q d6 d7) S2 = some (.lst (intL (natL (q.drop 1 ++ q.take 1))), S2) := by
      refine dBin_of x1 x2 ?_
      show okLst false (intL (natL (q.drop 1)) ++ intL (natL (q.take 1))) S2 = _
      rw [show intL (natL (q.drop 1)) ++ intL (natL (q.take 1)) = intL (natL (q.drop 1 ++ q.take 1)) from by show _ = ((q.drop 1 ++ q.take 1).map _).map _; rw [List.map_append, List.map_append]; rfl]
      exact okv (by rw [intL_len, natL_len, List.length_append]; have h1 : (q.drop 1).length ≤ q.length := by rw [List.length_drop]; omega
                    have h2 := List.length_take_le 1 q
                    omega)
    have hz : dZipL (dCons (dVar 5) (dCons (dBin (opAdd false) (dSlG false (dVar 5) (doSome (dCon (.int 1))) doNone) (dSlG false (dVar 5) doNone (doSome (dCon (.int 1))))) dNil)) (G M Q d6 d7) S2 = some (zipS (fixS ((rndL q).map fun p => D.int (p.1 : Nat))) (fixS ((rndL q).map fun p => D.int (p.2 : Nat))), (rndL q).length + 1, S2) := by
      unfold dZipL
      rw [dCons_of (d := .lst (intL (natL q))) (S1 := S2) rfl (dOne_of x3), rnd_fst, rnd_snd (by omega)]
      show some (zipS (fixS (intL (natL q))) (fixS (intL (natL (q.drop 1 ++ q.take 1)))), (intL (natL q)).length + 1, S2) = _
      rw [intL_len, natL_len, show (rndL q).length = q.length from by unfold rndL; rw [List.length_map, List.length_range]]
    obtain ⟨G3, S3, e3, M', d6', d7', rfl, p3, b3, k3⟩ := for_inv (src := zipS (fixS ((rndL q).map fun p => D.int (p.1 : Nat))) (fixS ((rndL q).map fun p => D.int (p.2 : Nat)))) (g := dgTup 2 (dgCons (dgName 6) (dgCons (dgName 7) dgNil))) (b := fpB) (ds := (rndL q).map fun p => D.tup [.int (p.1 : Nat), .int (p.2 : Nat)])
      (fun i G' S' => ∃ M d6 d7, G' = G M Q d6 d7 ∧ PlainM k M ∧ Fek N S' ∧ KeepG N S S') (fun i G' S' h => zip_srcT i)
      (fun i G' S' d hd h => by
        obtain ⟨M, d6, d7, rfl, p, hb, hkp⟩ := h
        rw [List.getElem?_map] at hd
        obtain ⟨pr, hpr, rfl⟩ := Option.map_eq_some_iff.mp hd
        have hN' : N ≤ S'.length := Nat.le_trans hN hkp.len
        let A : Option D := some (.int (pr.1 : Nat))
        let B : Option D := some (.int (pr.2 : Nat))
        have hlen : dCall opLen (dCons (dVar 5) dNil) (G M Q A B) S' = some (.int ((q.length : Nat) : Int), S') := by
          have := len_seq (S := S') (x := .lst (intL (natL q))) rfl
          rw [intL_len, natL_len] at this
          exact dCall_of (dOne_of (d := .lst (intL (natL q))) (S1 := S') rfl) this
        have cl : dCmpT (opCmp fun i j => decide (j < i)) (dCall opLen (dCons (dVar 5) dNil)) (dCon (.int 2)) (G M Q A B) S' = some (decide ((2 : Int) < (q.length : Nat)), S') := dCmpT_of hlen rfl (show opCmp (fun i j => decide (j < i)) (.int ((q.length : Nat) : Int)) (.int 2) S' = some (.bl (decide ((2 : Int) < (q.length : Nat))), S') from rfl)
        by_cases hq : (2 : Int) < (q.length : Nat)
        · rw [decide_eq_true hq] at cl
          obtain ⟨h1, h2', hne⟩ := rnd_ne nd (by omega) (List.mem_of_getElem? hpr)
          obtain ⟨S4, e4, b4, k4⟩ := fd_with (M := M) (x := "bow") (y := "stand") hb hN' hk (hlt _ h1) (hlt _ h2')
          exact ⟨_, S', _, S4, rfl, (dSeq_nx (dAsg_of ((dIf_t cl).trans (dCallF_of (ds := [gridD k M, .int (pr.1 : Nat), .int (pr.2 : Nat), .tup [.str "bow", .str "stand"]]) (S1 := S') (dCons_of rfl (dCons_of rfl (dCons_of rfl (dOne_of (dTup_of (ds := [.str "bow", .str "stand"]) rfl (by show 2 ≤ 1000000; decide)))))) rfl e4)))).trans rfl, _, A, B, rfl, p.put hne (by decide), b4, hkp.trans k4⟩
        · rw [decide_eq_false hq] at cl
          exact ⟨_, S', _, S', rfl, (dSeq_nx (dAsg_of ((dIf_f cl).trans (show dVar 4 (G M Q A B) S' = some (gridD k M, S') from rfl)))).trans rfl, M, A, B, rfl, p, hb, hkp⟩) (rndL q).length 0 (G M Q d6 d7) S2 (by rw [List.length_map]; omega) ⟨M, d6, d7, rfl, p, b2, k1.trans k2.grow⟩
    exact ⟨M', Q, d6', d7', S3, (dIte_t c).trans ((dSeq_nx f5).trans ((dSeq_nx ((dFor_of hz).trans e3)).trans rfl)), p3, b3, k3⟩
  · rw [decide_eq_false hf] at c
    exact ⟨M, d5, d6, d7, S, (dIte_f c).trans rfl, p, b, .refl⟩
theorem fd_plain (b : Fek N S) (hN : N ≤ S.length) (hk : k ≤ 10) (h2 : 2 ≤ k) :
    ∃ M S', fn_fdplain [.loc 1, .int k] S = some (gridD k M, S') ∧ PlainM k M ∧ Fek N S' ∧ KeepG N S S' := by
  let G (d2 d3 d4 d5 d6 d7 : Option D) : Gam := [some (.loc 1), some (.int k), d2, d3, d4, d5, d6, d7]
  obtain ⟨fk, S1, e1, hfk, b1, k1⟩ := fd_draw (size := 7) b (by decide) (by decide)
  have hN1 : N ≤ S1.length := by rw [k1.len]; exact hN
  let ms : List Int := [0, 2, 3, 5, 9]
  obtain ⟨r, hr, S2, e2, b2, k2⟩ := fd_pick (ds := ms.map D.int) (x := .lst (ms.map D.int)) b1 (fun S' h => rfl) (by decide) (by decide)
  have hN2 : N ≤ S2.length := by rw [k2.len]; exact hN1
  have hr' : r < ms.length := by rw [List.length_map] at hr; exact hr
  rw [List.getElem_map] at e2
  let m := ms[r]
  let F : Option D := some (.int (fk : Nat))
  let A : Option D := some (.int m)
  have f1 : dPar 2 3 (dCons (dCallF 2 (dCons (dVar 0) (dCons (dCon (.int 7)) dNil)) fn_fddraw) (dCons (dCallF 2 (dCons (dVar 0) (dCons (dLst false (dCons (dCon (.int 0)) (dCons (dCon (.int 2)) (dCons (dCon (.int 3)) (dCons (dCon (.int 5)) (dCons (dCon (.int 9)) dNil)))))) dNil)) fn_fdpick) dNil)) (G none none none none none none) S = some (.nx, G F A none none none none, S2) :=
    dPar_of (dCons_of (dCallF_of (ds := [.loc 1, .int 7]) (S1 := S) rfl rfl e1) (dOne_of (dCallF_of (ds := [.loc 1, .lst (ms.map D.int)]) (S1 := S1) (dCons_of rfl (dOne_of (dLst_of rfl (by show 5 ≤ 1000000; decide)))) rfl e2)))
  have k12 : KeepG N S S2 := k1.grow.trans k2.grow
  have c : dCmpT (opEq false) (dVar 2) (dCon (.int 0)) (G F A none none none none) S2 = some (decide ((fk : Int) = 0), S2) := dCmpT_of (x := .int (fk : Nat)) (y := .int 0) (S1 := S2) (S2 := S2) rfl rfl eq_int
  by_cases hf : (fk : Int) = 0
  · obtain ⟨M, S3, e3, p3, b3, k3⟩ := fd_table (ms := ["stand", "bow"]) (menu := .lst ((["stand", "bow"] : List Str).map D.str)) (m := m) b2 hN2 hk (by decide) (by decide) (by decide) (fun _ _ => rfl)
    refine ⟨M, S3, dFn_rt (G' := G F A none none none none) ((dSeq_nx f1).trans (dSeq_yes c (decide_eq_true hf) (dRetS_of ?_))), p3, b3, k12.trans k3⟩
    exact dCallF_of (ds := [.loc 1, .int k, .lst ((["stand", "bow"] : List Str).map D.str), .int m]) (S1 := S2) (dCons_of rfl (dCons_of rfl (dCons_of (dLst_of rfl (by show 2 ≤ 1000000; decide)) (dOne_of rfl)))) rfl e3
  · obtain ⟨M1, S3, e3, p3, b3, k3⟩ := fd_ranked (m := m) b2 hN2 hk
    have hN3 : N ≤ S3.length := Nat.le_trans hN2 k3.len
    let ns : List Nat := [0, 0, 1, 1, 2, 3, 0]
    have hfn : fk < ns.length := by show fk < 7; omega
    have hall : ∀ n ∈ ns, n ≤ 1000 := by decide
    obtain ⟨M2, S4, e4, p4, b4, k4⟩ := fd_turned (n := ns[fk]) b3 hN3 hk h2 (hall _ (List.getElem_mem hfn)) p3
    have hN4 : N ≤ S4.length := Nat.le_trans hN3 k4.len
    have x1 : dBin opIx (dLst false (dCons (dCon (.int 0)) (dCons (dCon (.int 0)) (dCons (dCon (.int 1)) (dCons (dCon (.int 1)) (dCons (dCon (.int 2)) (dCons (dCon (.int 3)) (dCons (dCon (.int 0)) dNil)))))))) (dVar 2) (G F A none none none none) S3 = some (.int (ns[fk] : Nat), S3) :=
      dBin_of (x := .lst (ns.map fun n => D.int (n : Nat))) (y := .int (fk : Nat)) (S1 := S3) (S2 := S3) (dLst_of rfl (by show 7 ≤ 1000000; decide)) rfl (ix_seq' rfl (by rw [List.getElem?_map, List.getElem?_eq_getElem hfn]; rfl))
    have f4 : dAsg (dCallF 3 (dCons (dVar 0) (dCons (dCallF 3 (dCons (dVar 0) (dCons (dVar 1) (dCons (dVar 3) dNil))) fn_fdranked) (dCons (dBin opIx (dLst false (dCons (dCon (.int 0)) (dCons (dCon (.int 0)) (dCons (dCon (.int 1)) (dCons (dCon (.int 1)) (dCons (dCon (.int 2)) (dCons (dCon (.int 3)) (dCons (dCon (.int 0)) dNil)))))))) (dVar 2)) dNil))) fn_fdturned) (dgName 4) (G F A none none none none) S2 = some (.nx, G F A (some (gridD k M2)) none none none, S4) :=
      dAsg_of (dCallF_of (ds := [.loc 1, gridD k M1, .int (ns[fk] : Nat)]) (S1 := S3) (dCons_of rfl (dCons_of (dCallF_of (ds := [.loc 1, .int k, .int m]) (S1 := S2) rfl rfl e3) (dOne_of x1))) rfl e4)
    obtain ⟨M5, e5, e6, e7, S5, f5, p5, b5, k5⟩ := fp_ring (m := m) (fk := fk) (d5 := none) (d6 := none) (d7 := none) b4 hN4 hk h2 p4
    exact ⟨M5, S5, dFn_rt (G' := G F A (some (gridD k M5)) e5 e6 e7) ((dSeq_nx f1).trans ((dSeq_no c (decide_eq_false hf)).trans ((dSeq_nx f4).trans ((dSeq_nx f5).trans (dRetS_of rfl))))), p5, b5, k12.trans (k3.trans (k4.trans k5))⟩
end
end Vw
set_option maxRecDepth 100000
set_option maxHeartbeats 4000000
namespace Vw
open PySem PySem.Spec L2
/-- what was there stands there still; more may stand behind it -/
def Pre (S S' : Sto) : Prop := ∃ R, S' = S ++ R
theorem Pre.refl {S : Sto} : Pre S S := ⟨[], (List.append_nil S).symm⟩
theorem Pre.app {S S' R : Sto} (h : Pre S S') : Pre S (S' ++ R) := by
  obtain ⟨Q, rfl⟩ := h
  exact ⟨Q ++ R, List.append_assoc ..⟩
theorem Pre.trans {S S' S'' : Sto} (h : Pre S S') (h' : Pre S' S'') : Pre S S'' := by
  obtain ⟨Q, rfl⟩ := h
  obtain ⟨R, rfl⟩ := h'
  exact ⟨Q ++ R, List.append_assoc ..⟩
theorem Pre.put {S S' : Sto} {n : Nat} {c : Cell} (h : Pre S S') (hn : S.length ≤ n) : Pre S (S'.set n c) := by
  obtain ⟨Q, rfl⟩ := h
  exact ⟨Q.set (n - S.length) c, List.set_append_right _ _ hn⟩
theorem Pre.len {S S' : Sto} (h : Pre S S') : S.length ≤ S'.length := by
  obtain ⟨Q, rfl⟩ := h
  rw [List.length_append]; omega
theorem Pre.at_ {S S' : Sto} {n : Nat} {c : Cell} (h : Pre S S') (e : S[n]? = some c) : S'[n]? = some c := by
  obtain ⟨Q, rfl⟩ := h
  rw [List.getElem?_append_left (List.getElem?_eq_some_iff.mp e).1]
  exact e
end Vw
set_option maxRecDepth 100000
set_option maxHeartbeats 4000000
namespace Vw
open PySem PySem.Spec L2
def hdR (r : List Nat) : Nat := r.headD 0
def laR (r : List Nat) : Nat := r.getLastD 0
def clo (E : Nat → Nat → Bool) (r : List Nat) : List (List Nat) := if E (laR r) (hdR r) = true then [r] else []
def avP (r : List Nat) (o : Nat) : Bool := decide (hdR r < o) && !decide (o ∈ r)
def avl (k : Nat) (r : List Nat) : List Nat := (List.range k).filter (avP r)
def exR (E : Nat → Nat → Bool) (k : Nat) (r : List Nat) : List Nat := (avl k r).filter (E (laR r))
def tre (E : Nat → Nat → Bool) (k : Nat) : Nat → List Nat → List (List Nat)
  | 0, r => clo E r
  | n + 1, r => clo E r ++ (exR E k r).flatMap fun o => tre E k n (r ++ [o])
def mR (k : Nat) (r : List Nat) : Nat := (avl k r).length
def bq : Nat → Nat
  | 0 => 1
  | n + 1 => 1 + (n + 1) * bq n
section
variable {E : Nat → Nat → Bool} {k : Nat} {r : List Nat} {o n : Nat}
theorem hd_app (h : r ≠ []) : hdR (r ++ [o]) = hdR r := by
  cases r with
  | nil => exact absurd rfl h
  | cons a r => rfl
theorem ex_mem (h : o ∈ exR E k r) : o < k ∧ avP r o = true ∧ E (laR r) o = true := by
  obtain ⟨h1, h2⟩ := List.mem_filter.mp h
  obtain ⟨h3, h4⟩ := List.mem_filter.mp h1
  exact ⟨List.mem_range.mp h3, h4, h2⟩
theorem ex_len : (exR E k r).length ≤ mR k r := List.length_filter_le _ _
theorem m_child (hr : r ≠ []) (h : o ∈ exR E k r) : mR k (r ++ [o]) < mR k r := by
  obtain ⟨h1, h2, _⟩ := ex_mem h
  have e : avl k (r ++ [o]) = (avl k r).filter fun z => !decide (z = o) := by
    unfold avl
    rw [List.filter_filter]
    refine List.filter_congr fun z _ => ?_
    unfold avP
    rw [hd_app hr]
    have q : decide (z ∈ r ++ [o]) = (decide (z = o) || decide (z ∈ r)) := by
      rw [← Bool.decide_or]
      exact decide_eq_decide.mpr (by rw [List.mem_append, List.mem_singleton]; exact Or.comm)
    rw [q, Bool.not_or]
    cases decide (z = o) <;> cases decide (z ∈ r) <;> cases decide (hdR r < z) <;> rfl
  show (avl k (r ++ [o])).length < (avl k r).length
  rw [e]
  have hm : o ∈ avl k r := List.mem_filter.mpr ⟨List.mem_range.mpr h1, h2⟩
  exact List.length_filter_lt_length_iff_exists.mpr ⟨o, hm, by simp⟩
theorem ne_app : r ++ [o] ≠ [] := by simp
theorem ex_nil (h : mR k r = 0) : exR E k r = [] := by
  have := ex_len (E := E) (k := k) (r := r)
  exact List.eq_nil_of_length_eq_zero (by omega)
theorem bq_mono : ∀ {a b : Nat}, a ≤ b → bq a ≤ bq b := by
  have one : ∀ n, bq n ≤ bq (n + 1) := fun n => by
    show bq n ≤ 1 + (n + 1) * bq n
    have : bq n ≤ (n + 1) * bq n := Nat.le_mul_of_pos_left _ (by omega)
    omega
  intro a b h
  induction h with
  | refl => exact Nat.le_refl _
  | step _ ih => exact Nat.le_trans ih (one _)
theorem clo_len : (clo E r).length ≤ 1 := by unfold clo; split <;> simp
theorem tre_len : ∀ (n : Nat) (r : List Nat), r ≠ [] → mR k r ≤ n → (tre E k n r).length ≤ bq n
  | 0, r, _, _ => clo_len
  | n + 1, r, hr, hm => by
    have h1 := clo_len (E := E) (r := r)
    have h2 := flatMap_le (f := fun o => tre E k n (r ++ [o])) (m := bq n) (l := exR E k r) fun o ho => tre_len n _ ne_app (by have := m_child hr ho; omega)
    have h3 := ex_len (E := E) (k := k) (r := r)
    have h4 : (exR E k r).length * bq n ≤ (n + 1) * bq n := Nat.mul_le_mul_right _ (by omega)
    show (clo E r ++ (exR E k r).flatMap fun o => tre E k n (r ++ [o])).length ≤ 1 + (n + 1) * bq n
    rw [List.length_append]
    omega
theorem m_le : mR k r ≤ k := by
  have := List.length_filter_le (avP r) (List.range k)
  rw [List.length_range] at this
  exact this
/-- all rings, in order -/
def allR (E : Nat → Nat → Bool) (k : Nat) : List (List Nat) := (List.range k).flatMap fun h => tre E k 7 [h]
theorem bq7 : bq 7 = 13700 := by decide
theorem allR_len (hk : k ≤ 7) : (allR E k).length ≤ 100000 := by
  have h2 := flatMap_le (f := fun h => tre E k 7 [h]) (m := bq 7) (l := List.range k) fun h _ => tre_len 7 _ (by simp) (by have := m_le (k := k) (r := [h]); omega)
  rw [List.length_range, bq7] at h2
  have : k * 13700 ≤ 7 * 13700 := Nat.mul_le_mul_right _ hk
  show ((List.range k).flatMap fun h => tre E k 7 [h]).length ≤ 100000
  omega
theorem natL_app (a b : List Nat) : natL (a ++ b) = natL a ++ natL b := List.map_append
end
end Vw
set_option maxRecDepth 100000
set_option maxHeartbeats 4000000
namespace Vw
open PySem PySem.Spec L2
def d_grfrom (fn_grfrom : DF) : DS :=
    (dSeq (dAsg (dIf (dCmpT (opIn false) (dBin opIx (dVar 1) (dCon (.int 0))) (dBin opIx (dVar 0) (dBin opIx (dVar 1) (dUn opNeg (dCon (.int 1)))))) (dLst true (dCons (dVar 1) dNil)) (dLst true dNil)) (dgName 2))
    (dSeq (dFor (dSeqI (dBin opIx (dVar 0) (dBin opIx (dVar 1) (dUn opNeg (dCon (.int 1)))))) (dgName 3)
    (dSeq (dIte (dAnd (dCmpT (opCmp fun i j => decide (j < i)) (dVar 3) (dBin opIx (dVar 1) (dCon (.int 0)))) (dCmpT (opIn true) (dVar 3) (dVar 1)))
    (dSeq (dExpr (dMeth "list" opExtend (dVar 2) (dCons (dCallF 2 (dCons (dVar 0) (dCons (dBin (opAdd false) (dVar 1) (dTup (dCons (dVar 3) dNil))) dNil)) fn_grfrom) dNil)))
    dSkip) dSkip)
    dSkip))
    (dSeq (dRet (dVar 2))
    dSkip)))
def fN_grfrom : Nat → DF
  | 0 => dDef 4 dsNo
  | n + 1 => dDef 4 (d_grfrom (fN_grfrom n))
def fn_grfrom : DF := fN_grfrom 8
def d_grall : DS :=
    (dSeq (dRet (dLc2 false [1, 2] [2] (dRng1 (dCons (dCall opLen (dCons (dVar 0) dNil)) dNil)) (dgName 1) dYes (dSeqI (dCallF 2 (dCons (dVar 0) (dCons (dTup (dCons (dVar 1) dNil)) dNil)) fn_grfrom)) (dgName 2) dYes (dVar 2)))
    dSkip)
def fn_grall : DF := dDef 3 d_grall
def d_grfoll : DS :=
    (dSeq (dRet (dLc false [2] (dSeqI (dBin opIx (dVar 0) (dCon (.int 0)))) (dgName 2) dYes (dLc false [3, 4] (dEnum (dVar 2)) (dgTup 2 (dgCons (dgName 3) (dgCons (dgName 4) dgNil))) (dCmpT (opIn false) (dVar 4) (dVar 1)) (dVar 3))))
    dSkip)
def fn_grfoll : DF := dDef 5 d_grfoll
abbrev rowV (r : List Nat) : D := .tup (intL (natL r))
abbrev folL (E : Nat → Nat → Bool) (k a : Nat) : List Nat := (List.range k).filter (E a)
abbrev folV (E : Nat → Nat → Bool) (k : Nat) : D := .lst ((List.range k).map fun a => .lst (intL (natL (folL E k a))))
section
variable {E : Nat → Nat → Bool} {k : Nat} {S : Sto} {r : List Nat} {o n : Nat}
theorem nat_mem {a : Nat} {l : List Nat} : ((a : Int) ∈ natL l) ↔ a ∈ l := by
  unfold natL
  rw [List.mem_map]
  constructor
  · rintro ⟨b, hb, e⟩
    have : b = a := by omega
    rw [← this]; exact hb
  · intro h
    exact ⟨a, h, rfl⟩
theorem ix_hd (h : r ≠ []) : opIx (rowV r) (.int 0) S = some (.int (hdR r : Nat), S) := by
  cases r with
  | nil => exact absurd rfl h
  | cons a r => exact ix_seq' (r := 0) (x := rowV (a :: r)) rfl rfl
theorem ix_la (h : r ≠ []) : opIx (rowV r) (.int (-1)) S = some (.int (laR r : Nat), S) := by
  refine ix_lastI ?_
  unfold natL laR
  rw [List.getLast?_map, List.getLastD_eq_getLast?]
  cases hl : r.getLast? with
  | none => exact absurd (List.getLast?_eq_none_iff.mp hl) h
  | some a => rfl
theorem la_lt (h : r ≠ []) (hk : ∀ a ∈ r, a < k) : laR r < k := by
  unfold laR
  rw [List.getLastD_eq_getLast?]
  cases hl : r.getLast? with
  | none => exact absurd (List.getLast?_eq_none_iff.mp hl) h
  | some a => exact hk a (List.mem_of_getLast? hl)
theorem hd_lt (h : r ≠ []) (hk : ∀ a ∈ r, a < k) : hdR r < k := by
  cases r with
  | nil => exact absurd rfl h
  | cons a r => exact hk a List.mem_cons_self
theorem ix_fol {a : Nat} (h : a < k) : opIx (folV E k) (.int (a : Nat)) S = some (.lst (intL (natL (folL E k a))), S) := ix_seq' rfl (by rw [List.getElem?_map, List.getElem?_range h]; rfl)
theorem fol_len {a : Nat} : (folL E k a).length ≤ k := by
  have := List.length_filter_le (E a) (List.range k)
  rw [List.length_range] at this
  exact this
theorem row_app (hl : r.length ≤ 1000) : okTup (intL (natL r) ++ [.int (o : Nat)]) S = some (rowV (r ++ [o]), S) := by
  have e : intL (natL r) ++ [.int (o : Nat)] = intL (natL (r ++ [o])) := by
    rw [natL_app]
    show _ = (natL r ++ natL [o]).map D.int
    rw [List.map_append]; rfl
  rw [e]
  exact okt (by rw [intL_len, natL_len, List.length_append]; show r.length + 1 ≤ _; omega)
theorem grstep {fn : DF} {Gc : Nat → List (List Nat)} (hk : k ≤ 10) (hr : r ≠ []) (hrk : ∀ a ∈ r, a < k) (hrl : r.length ≤ 1000) (hc : ∀ o ∈ exR E k r, (Gc o).length ≤ 13700)
    (ih : ∀ o ∈ exR E k r, ∀ S, ∃ A S', fn [folV E k, rowV (r ++ [o])] S = some (.loc A, S') ∧ S'[A]? = some (Cell.lst ((Gc o).map rowV)) ∧ Pre S S') :
    ∃ A S', dDef 4 (d_grfrom fn) [folV E k, rowV r] S = some (.loc A, S') ∧ S'[A]? = some (Cell.lst ((clo E r ++ (exR E k r).flatMap Gc).map rowV)) ∧ Pre S S' := by
  let G (d2 d3 : Option D) : Gam := [some (folV E k), some (rowV r), d2, d3]
  let A := S.length
  let B : Option D := some (.loc A)
  have lk := la_lt hr hrk
  have hkk := hd_lt hr hrk
  have a0 : ∀ d2 d3 (S : Sto), dBin opIx (dVar 1) (dCon (.int 0)) (G d2 d3) S = some (.int (hdR r : Nat), S) := fun d2 d3 S => dBin_of (x := rowV r) (y := .int 0) (S1 := S) (S2 := S) rfl rfl (ix_hd hr)
  have a1 : ∀ d2 d3 (S : Sto), dBin opIx (dVar 1) (dUn opNeg (dCon (.int 1))) (G d2 d3) S = some (.int (laR r : Nat), S) := fun d2 d3 S => dBin_of (x := rowV r) (y := .int (-1)) (S1 := S) (S2 := S) rfl rfl (ix_la hr)
  have a2 : ∀ d2 d3 (S : Sto), dBin opIx (dVar 0) (dBin opIx (dVar 1) (dUn opNeg (dCon (.int 1)))) (G d2 d3) S = some (.lst (intL (natL (folL E k (laR r)))), S) := fun d2 d3 S => dBin_of (x := folV E k) (S1 := S) rfl (a1 d2 d3 S) (ix_fol lk)
  have c0 : dCmpT (opIn false) (dBin opIx (dVar 1) (dCon (.int 0))) (dBin opIx (dVar 0) (dBin opIx (dVar 1) (dUn opNeg (dCon (.int 1))))) (G none none) S = some (E (laR r) (hdR r), S) := by
    have := dCmpT_of (op := opIn false) (a0 none none S) (a2 none none S) (in_intsL (neg := false) (z := (hdR r : Int)) (e := natL (folL E k (laR r))))
    have e : decide ((hdR r : Int) ∈ natL (folL E k (laR r))) = E (laR r) (hdR r) := by
      have iff : ((hdR r : Int) ∈ natL (folL E k (laR r))) ↔ E (laR r) (hdR r) = true := by
        rw [nat_mem, List.mem_filter]
        exact ⟨fun h => h.2, fun h => ⟨List.mem_range.mpr hkk, h⟩⟩
      cases hq : E (laR r) (hdR r) with
      | true => exact decide_eq_true (iff.mpr hq)
      | false => exact decide_eq_false fun h => by rw [iff.mp h] at hq; cases hq
    rw [if_neg Bool.false_ne_true, e] at this
    exact this
  have f1 : dAsg (dIf (dCmpT (opIn false) (dBin opIx (dVar 1) (dCon (.int 0))) (dBin opIx (dVar 0) (dBin opIx (dVar 1) (dUn opNeg (dCon (.int 1)))))) (dLst true (dCons (dVar 1) dNil)) (dLst true dNil)) (dgName 2) (G none none) S = some (.nx, G B none, S ++ [Cell.lst ((clo E r).map rowV)]) := by
    refine dAsg_of ?_
    unfold clo
    cases hq : E (laR r) (hdR r) with
    | true =>
      rw [hq] at c0
      refine (dIf_t c0).trans ?_
      show okLst true [rowV r] S = _
      exact okc (by show 1 ≤ 1000000; decide)
    | false =>
      rw [hq] at c0
      refine (dIf_f c0).trans ?_
      show okLst true [] S = _
      exact okc (by show 0 ≤ 1000000; decide)
  let S1 : Sto := S ++ [Cell.lst ((clo E r).map rowV)]
  let F := folL E k (laR r)
  have hF : F.length ≤ 10 := Nat.le_trans fol_len hk
  have hs := dSeqI_l (f := dBin opIx (dVar 0) (dBin opIx (dVar 1) (dUn opNeg (dCon (.int 1))))) (G := G B none) (S := S1) (S1 := S1) (a2 B none S1)
  rw [intL_len, natL_len] at hs
  have inx : ∀ o ∈ F.filter (avP r), o ∈ exR E k r := fun o ho => by
    obtain ⟨h1, h2⟩ := List.mem_filter.mp ho
    obtain ⟨h3, h4⟩ := List.mem_filter.mp h1
    exact List.mem_filter.mpr ⟨List.mem_filter.mpr ⟨h3, h2⟩, h4⟩
  have hlen : ∀ l : List Nat, l.Sublist F → (clo E r ++ (l.filter (avP r)).flatMap Gc).length ≤ 137001 := fun l hl => by
    have h1 := clo_len (E := E) (r := r)
    have h2 := flatMap_le (f := Gc) (m := 13700) (l := l.filter (avP r)) fun o ho => hc o (inx o ((hl.filter _).subset ho))
    have h3 := List.length_filter_le (avP r) l
    have h4 := hl.length_le
    have h5 : (l.filter (avP r)).length * 13700 ≤ 10 * 13700 := Nat.mul_le_mul_right _ (by omega)
    rw [List.length_append]
    omega
  obtain ⟨G3, S3, e3, _, d3, rfl, w3, p3⟩ := for_inv (src := fixS (intL (natL F))) (g := dgName 3) (b := (dSeq (dIte (dAnd (dCmpT (opCmp fun i j => decide (j < i)) (dVar 3) (dBin opIx (dVar 1) (dCon (.int 0)))) (dCmpT (opIn true) (dVar 3) (dVar 1)))
    (dSeq (dExpr (dMeth "list" opExtend (dVar 2) (dCons (dCallF 2 (dCons (dVar 0) (dCons (dBin (opAdd false) (dVar 1) (dTup (dCons (dVar 3) dNil))) dNil)) fn) dNil)))
    dSkip) dSkip)
    dSkip)) (ds := intL (natL F))
    (fun t G' S' => t ≤ F.length ∧ ∃ d3, G' = G B d3 ∧ S'[A]? = some (Cell.lst ((clo E r ++ ((F.take t).filter (avP r)).flatMap Gc).map rowV)) ∧ Pre S S') (fun t G' S' h => rfl)
    (fun t G' S' d hd h => by
      obtain ⟨_, d3, rfl, w, pr⟩ := h
      have ht : t < F.length := by have := (List.getElem?_eq_some_iff.mp hd).1; rw [intL_len, natL_len] at this; exact this
      obtain ⟨o, ho⟩ : ∃ o, F[t]? = some o := ⟨F[t], List.getElem?_eq_getElem ht⟩
      have ed : d = .int (o : Nat) := by
        rw [natL_get, ho] at hd
        exact (Option.some.inj hd).symm
      subst ed
      have hm : o ∈ F := List.mem_of_getElem? ho
      have htk : F.take (t + 1) = F.take t ++ [o] := take_snoc ho
      let G1 : Gam := G B (some (.int (o : Nat)))
      have c : dAnd (dCmpT (opCmp fun i j => decide (j < i)) (dVar 3) (dBin opIx (dVar 1) (dCon (.int 0)))) (dCmpT (opIn true) (dVar 3) (dVar 1)) G1 S' = some (avP r o, S') := by
        have c1 : dCmpT (opCmp fun i j => decide (j < i)) (dVar 3) (dBin opIx (dVar 1) (dCon (.int 0))) G1 S' = some (decide (hdR r < o), S') := dCmpT_of (x := .int (o : Nat)) (S1 := S') rfl (a0 B _ S') (by
          show some (D.bl (decide ((hdR r : Int) < (o : Int))), S') = _
          rw [decide_eq_decide.mpr (show ((hdR r : Int) < (o : Int)) ↔ hdR r < o from ⟨fun h => by omega, fun h => by omega⟩)])
        have c2 : dCmpT (opIn true) (dVar 3) (dVar 1) G1 S' = some (!decide (o ∈ r), S') := by
          have := dCmpT_of (op := opIn true) (x := .int (o : Nat)) (y := rowV r) (S1 := S') (S2 := S') (f := dVar 3) (g := dVar 1) (G := G1) (S := S') rfl rfl (in_ints (neg := true) (z := (o : Int)) (e := natL r))
          rw [if_pos rfl, decide_eq_decide.mpr (nat_mem (a := o) (l := r))] at this
          exact this
        exact dAnd_of c1 c2
      cases hav : avP r o with
      | false =>
        rw [hav] at c
        refine ⟨G1, S', G1, S', rfl, (dSeq_no c rfl).trans rfl, ht, _, rfl, ?_, pr⟩
        rw [htk, List.filter_append, show [o].filter (avP r) = [] by simp [hav], List.append_nil]
        exact w
      | true =>
        rw [hav] at c
        have hex : o ∈ exR E k r := inx o (List.mem_filter.mpr ⟨hm, hav⟩)
        obtain ⟨A2, S2, e2, w2, p2⟩ := ih o hex S'
        have wA : S2[A]? = some (Cell.lst ((clo E r ++ ((F.take t).filter (avP r)).flatMap Gc).map rowV)) := p2.at_ w
        have enew : clo E r ++ ((F.take (t + 1)).filter (avP r)).flatMap Gc = (clo E r ++ ((F.take t).filter (avP r)).flatMap Gc) ++ Gc o := by
          rw [htk, List.filter_append, show [o].filter (avP r) = [o] by simp [hav], List.flatMap_append, List.append_assoc]
          simp
        have hb := hlen (F.take (t + 1)) (List.take_sublist _ _)
        rw [enew] at hb
        have ext : opExtend (.loc A) [.loc A2] S2 = some (.non, S2.set A (Cell.lst ((clo E r ++ ((F.take (t + 1)).filter (avP r)).flatMap Gc).map rowV))) := by
          show (match S2[A]?, lstD S2 (.loc A2) with | some (Cell.lst ds), some es => (if ds.length + es.length ≤ lim then some (D.non, S2.set A (Cell.lst (ds ++ es))) else none) | _, _ => none) = _
          have el : lstD S2 (.loc A2) = some ((Gc o).map rowV) := by
            show (match S2[A2]? with | some (Cell.lst xs) => some xs | _ => none) = _
            rw [w2]
          rw [wA, el]
          simp only
          rw [if_pos (by rw [List.length_append] at hb; rw [List.length_map, List.length_map]; show _ ≤ 1000000; omega), enew, List.map_append (l₁ := clo E r ++ _)]
        have call : dCallF 2 (dCons (dVar 0) (dCons (dBin (opAdd false) (dVar 1) (dTup (dCons (dVar 3) dNil))) dNil)) fn G1 S' = some (.loc A2, S2) :=
          dCallF_of (ds := [folV E k, rowV (r ++ [o])]) (S1 := S') (dCons_of rfl (dOne_of (dBin_of (x := rowV r) (y := .tup [.int (o : Nat)]) (S1 := S') (S2 := S') rfl (dTup_of (ds := [.int (o : Nat)]) (S1 := S') rfl (by show 1 ≤ 1000000; decide)) (row_app hrl)))) rfl e2
        have x1 : dExpr (dMeth "list" opExtend (dVar 2) (dCons (dCallF 2 (dCons (dVar 0) (dCons (dBin (opAdd false) (dVar 1) (dTup (dCons (dVar 3) dNil))) dNil)) fn) dNil)) G1 S' = some (.nx, G1, S2.set A (Cell.lst ((clo E r ++ ((F.take (t + 1)).filter (avP r)).flatMap Gc).map rowV))) :=
          dExpr_of (dMeth_of (x := .loc A) (S1 := S') rfl (tyD_loc w) (dOne_of call) ext)
        exact ⟨G1, S', G1, _, rfl, (dSeq_nx ((dIte_t c).trans ((dSeq_nx x1).trans rfl))).trans rfl, ht, _, rfl, List.getElem?_set_self (List.getElem?_eq_some_iff.mp wA).1, (pr.trans p2).put (Nat.le_refl _)⟩) F.length 0 (G B none) S1 (by rw [intL_len, natL_len]; omega) ⟨Nat.zero_le _, none, rfl, by
        show (S ++ [_])[A]? = _
        rw [List.getElem?_append_right (Nat.le_refl _)]
        simp, Pre.refl.app⟩
  rw [intL_len, natL_len, List.take_length] at w3
  have ef : F.filter (avP r) = exR E k r := by
    show ((List.range k).filter (E (laR r))).filter (avP r) = ((List.range k).filter (avP r)).filter (E (laR r))
    rw [List.filter_filter, List.filter_filter]
    exact List.filter_congr fun _ _ => Bool.and_comm _ _
  rw [ef] at w3
  have hs' := dFor_of (g := dgName 3) (b := (dSeq (dIte (dAnd (dCmpT (opCmp fun i j => decide (j < i)) (dVar 3) (dBin opIx (dVar 1) (dCon (.int 0)))) (dCmpT (opIn true) (dVar 3) (dVar 1)))
    (dSeq (dExpr (dMeth "list" opExtend (dVar 2) (dCons (dCallF 2 (dCons (dVar 0) (dCons (dBin (opAdd false) (dVar 1) (dTup (dCons (dVar 3) dNil))) dNil)) fn) dNil)))
    dSkip) dSkip)
    dSkip)) hs
  exact ⟨A, S3, dFn_rt (G' := G B d3) ((dSeq_nx f1).trans ((dSeq_nx (hs'.trans e3)).trans (dRetS_of rfl))), w3, p3⟩
theorem grfrom_ok (hk : k ≤ 7) : ∀ (n : Nat) (r : List Nat) (S : Sto), n ≤ 7 → r ≠ [] → (∀ a ∈ r, a < k) → r.length + n ≤ 1000 → mR k r ≤ n → ∃ A S', fN_grfrom (n + 1) [folV E k, rowV r] S = some (.loc A, S') ∧ S'[A]? = some (Cell.lst ((tre E k n r).map rowV)) ∧ Pre S S'
  | 0, r, S, _, hr, hrk, hrl, hm => by
    have he := ex_nil (E := E) (k := k) (r := r) (by omega)
    have := grstep (E := E) (k := k) (S := S) (r := r) (fn := fN_grfrom 0) (Gc := fun _ => []) (by omega) hr hrk (by omega) (fun o ho => by rw [he] at ho; cases ho) (fun o ho => by rw [he] at ho; cases ho)
    rw [he, List.flatMap_nil, List.append_nil] at this
    exact this
  | n + 1, r, S, hn, hr, hrk, hrl, hm => by
    exact grstep (E := E) (k := k) (S := S) (r := r) (fn := fN_grfrom (n + 1)) (Gc := fun o => tre E k n (r ++ [o])) (by omega) hr hrk (by omega)
      (fun o ho => by
        have h1 := m_child hr ho
        have h2 := tre_len (E := E) (k := k) n (r ++ [o]) ne_app (by omega)
        have h3 : bq n ≤ bq 7 := bq_mono (by omega)
        rw [bq7] at h3
        omega)
      (fun o ho S => grfrom_ok hk n (r ++ [o]) S (by omega) ne_app (fun a ha => by
        rcases List.mem_append.mp ha with ha | ha
        · exact hrk a ha
        · rw [List.mem_singleton.mp ha]; exact (ex_mem ho).1) (by rw [List.length_append]; show r.length + 1 + n ≤ 1000; omega) (by have := m_child hr ho; omega))
/-- lists of two clauses, the second from a call that lays lists of its own -/
theorem lc2_grow {α β : Type} {src : Src} {g g1 : DG} {w1 : DI} {f : DE} {own1 : List Nat} {G : Gam} {l : List α} {e : α → D} {l1 : α → List β} {e1 : β → D} (h : α → β → D) (hsrc : ∀ i S, src i S = some (l.map e)[i]?)
    (step : ∀ x ∈ l, ∀ S, ∃ G1 src1 S2, g (e x) G S = some (G1, S) ∧ w1 G1 S = some (src1, (l1 x).length + 1, S2) ∧ Pre S S2 ∧ (∀ i, src1 i S2 = some ((l1 x).map e1)[i]?) ∧ ∀ y ∈ l1 x, ∃ G2, g1 (e1 y) (wipeG G1 own1) S2 = some (G2, S2) ∧ f G2 S2 = some (h x y, S2)) :
    ∀ (k i : Nat) (S : Sto) (acc : List D), i + k = l.length → ∃ S', dLc2Loop src g dYes w1 g1 dYes f own1 G (k + 1) i S acc = some (acc ++ (l.drop i).flatMap fun x => (l1 x).map (h x), S') ∧ Pre S S' := by
  intro k
  induction k with
  | zero =>
    intro i S acc hi
    refine ⟨S, ?_, Pre.refl⟩
    unfold dLc2Loop
    rw [hsrc, List.getElem?_eq_none (by rw [List.length_map]; omega), List.drop_of_length_le (by omega)]
    simp
  | succ k ih =>
    intro i S acc hi
    have hil : i < l.length := by omega
    obtain ⟨G1, src1, S2, s1, s2, sp, s3, s4⟩ := step l[i] (List.getElem_mem hil) S
    obtain ⟨S3, e3, p3⟩ := ih (i + 1) S2 (acc ++ (l1 l[i]).map (h l[i])) (by omega)
    refine ⟨S3, ?_, sp.trans p3⟩
    unfold dLc2Loop
    rw [hsrc, List.getElem?_map, List.getElem?_eq_getElem hil]
    show ((g (e l[i]) G S).bind fun p => (dYes p.1 p.2).bind fun b => if b.1 = true
        then (w1 p.1 b.2).bind fun q => (dLcLoop q.1 g1 dYes f (wipeG p.1 own1) q.2.1 0 q.2.2 acc).bind fun r => dLc2Loop src g dYes w1 g1 dYes f own1 G (k + 1) (i + 1) r.2 r.1
        else dLc2Loop src g dYes w1 g1 dYes f own1 G (k + 1) (i + 1) b.2 acc) = _
    rw [s1]
    show (w1 G1 S).bind (fun q => (dLcLoop q.1 g1 dYes f (wipeG G1 own1) q.2.1 0 q.2.2 acc).bind fun r => dLc2Loop src g dYes w1 g1 dYes f own1 G (k + 1) (i + 1) r.2 r.1) = _
    rw [s2]
    show (dLcLoop src1 g1 dYes f (wipeG G1 own1) ((l1 l[i]).length + 1) 0 S2 acc).bind (fun r => dLc2Loop src g dYes w1 g1 dYes f own1 G (k + 1) (i + 1) r.2 r.1) = _
    rw [lc_loopA s3 (h l[i]) acc s4]
    show dLc2Loop src g dYes w1 g1 dYes f own1 G (k + 1) (i + 1) S2 (acc ++ (l1 l[i]).map (h l[i])) = _
    rw [e3, List.drop_eq_getElem_cons hil, List.flatMap_cons, List.append_assoc]
theorem grall_ok (hk : k ≤ 7) : ∃ S', fn_grall [folV E k] S = some (.lst ((allR E k).map rowV), S') ∧ Pre S S' := by
  let G (d1 d2 : Option D) : Gam := [some (folV E k), d1, d2]
  have ln : dCall opLen (dCons (dVar 0) dNil) (G none none) S = some (.int (k : Nat), S) := dCall_of (dOne_of (d := folV E k) (S1 := S) rfl) (by
    have := len_seq (S := S) (x := folV E k) rfl
    rw [List.length_map, List.length_range] at this
    exact this)
  have hr := rng1_ok (fs := dCons (dCall opLen (dCons (dVar 0) dNil)) dNil) (k := k) (G := G none none) (S := S) (dOne_of ln) (by omega)
  rw [rng_map] at hr
  obtain ⟨S', e, p⟩ := lc2_grow (src := fixS ((List.range k).map fun i => D.int (i : Nat))) (g := dgName 1) (g1 := dgName 2) (w1 := dSeqI (dCallF 2 (dCons (dVar 0) (dCons (dTup (dCons (dVar 1) dNil)) dNil)) fn_grfrom)) (f := dVar 2) (own1 := [2]) (G := G none none) (l := List.range k) (e := fun i => D.int (i : Nat)) (l1 := fun h => tre E k 7 [h]) (e1 := rowV) (fun _ y => rowV y) (fun i S => rfl)
    (fun x hx S => by
      have hx := List.mem_range.mp hx
      obtain ⟨A, S2, e2, w2, p2⟩ := grfrom_ok (E := E) hk 7 [x] S (Nat.le_refl _) (by simp) (fun a ha => by rw [List.mem_singleton.mp ha]; exact hx) (by show 1 + 7 ≤ 1000; decide) (Nat.le_trans m_le (by omega))
      have call : dCallF 2 (dCons (dVar 0) (dCons (dTup (dCons (dVar 1) dNil)) dNil)) fn_grfrom (G (some (.int (x : Nat))) none) S = some (.loc A, S2) :=
        dCallF_of (ds := [folV E k, rowV [x]]) (S1 := S) (dCons_of rfl (dOne_of (dTup_of (ds := [.int (x : Nat)]) (S1 := S) rfl (by show 1 ≤ 1000000; decide)))) rfl e2
      have q := dSeqI_c call w2
      rw [List.length_map] at q
      exact ⟨G (some (.int (x : Nat))) none, celS A, S2, rfl, q, p2, cel_src w2, fun y _ => ⟨G (some (.int (x : Nat))) (some (rowV y)), rfl, rfl⟩⟩) k 0 S [] (by rw [List.length_range]; omega)
  have hl := allR_len (E := E) (k := k) hk
  rw [List.drop_zero, List.nil_append] at e
  have ep : ((List.range k).flatMap fun x => (tre E k 7 [x]).map fun y => rowV y) = (allR E k).map rowV := by
    unfold allR
    rw [List.map_flatMap]
  rw [ep] at e
  refine ⟨S', dFn_rt (G' := G none none) (dRetS_of ?_), p⟩
  show ((dRng1 (dCons (dCall opLen (dCons (dVar 0) dNil)) dNil) (G none none) S).bind fun p => dLc2Loop p.1 (dgName 1) dYes (dSeqI (dCallF 2 (dCons (dVar 0) (dCons (dTup (dCons (dVar 1) dNil)) dNil)) fn_grfrom)) (dgName 2) dYes (dVar 2) [2] (G none none) p.2.1 0 p.2.2 []).bind (fun p => okLst false p.1 p.2) = _
  rw [hr]
  show ((dLc2Loop (fixS ((List.range k).map fun i => D.int (i : Nat))) (dgName 1) dYes (dSeqI (dCallF 2 (dCons (dVar 0) (dCons (dTup (dCons (dVar 1) dNil)) dNil)) fn_grfrom)) (dgName 2) dYes (dVar 2) [2] (G none none) (k + 1) 0 S []).bind fun p => okLst false p.1 p.2) = _
  rw [e]
  exact okv (by rw [List.length_map]; omega)
end
end Vw
set_option maxRecDepth 100000
set_option maxHeartbeats 4000000
namespace Vw
open PySem PySem.Spec L2
def edgM (M : Nat → Nat → Str) (words : List Str) (a b : Nat) : Bool := decide (M a b ∈ words)
section
variable {k : Nat} {M : Nat → Nat → Str} {ws : List (List Int)} {es : List Int} {S : Sto} {words : List Str} {r : List Nat}
theorem grfoll_ok (hk : k ≤ 10) : fn_grfoll [lockD k M ws es, .tup (words.map D.str)] S = some (folV (edgM M words) k, S) := by
  let P : D := .tup (words.map D.str)
  let G (d2 d3 d4 : Option D) : Gam := [some (lockD k M ws es), some P, d2, d3, d4]
  have hs := dSeqI_t (f := dBin opIx (dVar 0) (dCon (.int 0))) (G := G none none none) (S := S) (S1 := S) (ds := (List.range k).map fun a => D.tup (rowD k (M a))) (dBin_of (x := lockD k M ws es) (S1 := S) rfl rfl ix_lock0)
  rw [List.length_map] at hs
  have e := lc_pureY (c := false) (own := [2]) (g := dgName 2) (f := dLc false [3, 4] (dEnum (dVar 2)) (dgTup 2 (dgCons (dgName 3) (dgCons (dgName 4) dgNil))) (dCmpT (opIn false) (dVar 4) (dVar 1)) (dVar 3)) (l := List.range k) (e := fun a => D.tup (rowD k (M a))) hs rfl fix_src (fun a => .lst (intL (natL (folL (edgM M words) k a)))) fun a ha => by
    refine ⟨G (some (.tup (rowD k (M a)))) none none, rfl, ?_⟩
    have hw : dEnum (dVar 2) (G (some (.tup (rowD k (M a)))) none none) S = some (enS (rowD k (M a)), k + 1, S) := by
      show some (enS (rowD k (M a)), (rowD k (M a)).length + 1, S) = _
      rw [rowD_len]
    obtain ⟨out, S', e, _, rfl, rfl⟩ := lc_inv (src := enS (rowD k (M a))) (g := dgTup 2 (dgCons (dgName 3) (dgCons (dgName 4) dgNil))) (t := dCmpT (opIn false) (dVar 4) (dVar 1)) (f := dVar 3) (G := G (some (.tup (rowD k (M a)))) none none) (ds := (List.range k).map fun b => D.tup [.int (b : Nat), .str (M a b)])
      (fun i S' acc => i ≤ k ∧ S' = S ∧ acc = ((List.range i).filter (edgM M words a)).map fun b => D.int (b : Nat))
      (fun i S' acc h => by
        unfold enS
        rw [if_pos (by rw [rowD_len]; exact h.1), List.getElem?_map]
        by_cases hi : i < k
        · rw [rowD_get hi, List.getElem?_range hi]; rfl
        · rw [List.getElem?_eq_none (by rw [rowD_len]; omega), List.getElem?_eq_none (by rw [List.length_range]; omega)]; rfl)
      (fun i S' acc d hd h => by
        obtain ⟨_, rfl, rfl⟩ := h
        have hi : i < k := by have := (List.getElem?_eq_some_iff.mp hd).1; rwa [List.length_map, List.length_range] at this
        rw [List.getElem?_map, List.getElem?_range hi] at hd
        cases hd
        let G1 : Gam := G (some (.tup (rowD k (M a)))) (some (.int (i : Nat))) (some (.str (M a i)))
        have c : dCmpT (opIn false) (dVar 4) (dVar 1) G1 S' = some (edgM M words a i, S') := dCmpT_of (x := .str (M a i)) (S1 := S') rfl (S2 := S') (y := P) rfl in_strs
        refine ⟨G1, S', edgM M words a i, S', rfl, c, fun hp => ⟨.int (i : Nat), S', rfl, by omega, rfl, ?_⟩, fun hp => ⟨by omega, rfl, ?_⟩⟩
        · rw [List.range_succ, List.filter_append, List.map_append]; simp [hp]
        · rw [List.range_succ, List.filter_append, List.map_append]; simp [hp]) k 0 S [] (by rw [List.length_map, List.length_range]; omega) ⟨Nat.zero_le _, rfl, rfl⟩
    rw [List.length_map, List.length_range] at e
    have ei : ((List.range k).filter (edgM M words a)).map (fun b => D.int (b : Nat)) = intL (natL (folL (edgM M words) k a)) := by
      show _ = (((List.range k).filter (edgM M words a)).map fun j : Nat => (j : Int)).map D.int
      rw [List.map_map]; rfl
    rw [ei] at e
    exact (dLc_of hw e).trans (okv (by rw [intL_len, natL_len]; have := fol_len (E := edgM M words) (k := k) (a := a); omega))
  exact dFn_rt (G' := G none none none) (dRetS_of (e.trans (okv (by rw [List.length_map, List.length_range]; omega))))
abbrev rowP' (r : List Nat) : PyData := intsP (natL r)
theorem dep_row : ∀ r : List Nat, PyData.depthAll ((natL r).map PyData.int) = 0
  | [] => rfl
  | a :: r => by
    show max 0 (PyData.depthAll ((natL r).map PyData.int)) = 0
    rw [dep_row r]; rfl
theorem rng_tail {f : Nat} : ∀ k : Nat, (List.range k).filter (fun o => decide (f < o)) = (List.range (k - (f + 1))).map fun t => f + 1 + t
  | 0 => by rw [show 0 - (f + 1) = 0 by omega]; rfl
  | k + 1 => by
    rw [List.range_succ, List.filter_append, rng_tail k]
    by_cases h : f < k
    · rw [show k + 1 - (f + 1) = (k - (f + 1)) + 1 by omega, List.range_succ, List.map_append]
      simp [h]
      omega
    · rw [show k + 1 - (f + 1) = 0 by omega, show k - (f + 1) = 0 by omega]
      simp [h]
theorem tups_rows : ∀ l : List (List Nat), (∀ r ∈ l, r ≠ []) → tupsD (l.map rowV) = some (l.map natL)
  | [], _ => rfl
  | r :: l, h => by
    have ih := tups_rows l fun x hx => h x (List.mem_cons_of_mem _ hx)
    show (intsD (intL (natL r))).bind (fun ns => if ns = [] then none else (tupsD (l.map rowV)).map (ns :: ·)) = _
    rw [intsD_intL, ih]
    show (if natL r = [] then none else some (natL r :: l.map natL)) = _
    have hn : natL r ≠ [] := fun q => h r List.mem_cons_self (by unfold natL at q; exact List.map_eq_nil_iff.mp q)
    rw [if_neg hn]; rfl
end
end Vw
set_option maxRecDepth 100000
set_option maxHeartbeats 4000000
namespace Vw
open PySem PySem.Spec L2
end Vw
set_option maxRecDepth 100000
set_option maxHeartbeats 4000000
namespace Vw
open PySem PySem.Spec L2
def chE (E : Nat → Nat → Bool) : List Nat → Prop
  | a :: b :: r => E a b = true ∧ chE E (b :: r)
  | _ => True
section
variable {E E' : Nat → Nat → Bool} {k : Nat} {r s x p : List Nat} {o n m : Nat} {f : Nat → Nat}
theorem la_cons (h : r ≠ []) : laR (o :: r) = laR r := by
  cases r with
  | nil => exact absurd rfl h
  | cons b r => unfold laR; simp
theorem ch_app : ∀ (p : List Nat) (m : Nat) (s : List Nat), chE E (p ++ m :: s) ↔ chE E p ∧ chE E (m :: s) ∧ (p ≠ [] → E (laR p) m = true)
  | [], m, s => ⟨fun h => ⟨trivial, h, fun q => absurd rfl q⟩, fun h => h.2.1⟩
  | [a], m, s => ⟨fun h => ⟨trivial, h.2, fun _ => h.1⟩, fun h => ⟨h.2.2 (by simp), h.2.1⟩⟩
  | a :: b :: p, m, s => by
    have ih := ch_app (b :: p) m s
    have e : laR (a :: b :: p) = laR (b :: p) := la_cons (by simp)
    constructor
    · intro h
      have h1 : E a b = true ∧ chE E ((b :: p) ++ m :: s) := h
      obtain ⟨i1, i2, i3⟩ := ih.mp h1.2
      exact ⟨⟨h1.1, i1⟩, i2, fun _ => by rw [e]; exact i3 (by simp)⟩
    · rintro ⟨h1, h2, h3⟩
      have h1 : E a b = true ∧ chE E (b :: p) := h1
      exact ⟨h1.1, ih.mpr ⟨h1.2, h2, fun _ => by rw [← e]; exact h3 (by simp)⟩⟩
/-- a way: its first hand is the least, none twice -/
structure PathP (E : Nat → Nat → Bool) (k : Nat) (r : List Nat) : Prop where
  ne : r ≠ []
  lt : ∀ a ∈ r, a < k
  nd : r.Nodup
  le : ∀ a ∈ r, hdR r ≤ a
  ch : chE E r
theorem hd_mem (h : r ≠ []) : hdR r ∈ r := by
  cases r with
  | nil => exact absurd rfl h
  | cons a r => exact List.mem_cons_self
theorem av_iff : avP r o = true ↔ hdR r < o ∧ o ∉ r := by
  unfold avP
  simp
theorem PathP.step (h : PathP E k r) (ho : o ∈ exR E k r) : PathP E k (r ++ [o]) := by
  obtain ⟨h1, h2, h3⟩ := ex_mem ho
  obtain ⟨a1, a2⟩ := av_iff.mp h2
  refine ⟨ne_app, fun a ha => ?_, List.nodup_append.mpr ⟨h.nd, List.pairwise_singleton _ _, fun a ha b hb q => a2 (by rw [List.mem_singleton.mp hb] at q; rw [← q]; exact ha)⟩, fun a ha => ?_, (ch_app r o []).mpr ⟨h.ch, trivial, fun _ => h3⟩⟩
  · rcases List.mem_append.mp ha with ha | ha
    · exact h.lt a ha
    · rw [List.mem_singleton.mp ha]; exact h1
  · rw [hd_app h.ne]
    rcases List.mem_append.mp ha with ha | ha
    · exact h.le a ha
    · rw [List.mem_singleton.mp ha]; omega
theorem tre_ring : ∀ (n : Nat) (r x : List Nat), PathP E k r → x ∈ tre E k n r → PathP E k x ∧ E (laR x) (hdR x) = true
  | 0, r, x, hr, h => by
    unfold tre clo at h
    split at h
    · rename_i hq
      rw [List.mem_singleton.mp h]; exact ⟨hr, hq⟩
    · cases h
  | n + 1, r, x, hr, h => by
    rcases List.mem_append.mp h with h | h
    · unfold clo at h
      split at h
      · rename_i hq
        rw [List.mem_singleton.mp h]; exact ⟨hr, hq⟩
      · cases h
    · obtain ⟨o, ho, hx⟩ := List.mem_flatMap.mp h
      exact tre_ring n _ x (hr.step ho) hx
theorem ring_tre : ∀ (s : List Nat) (n : Nat) (r : List Nat), r ≠ [] → PathP E k (r ++ s) → E (laR (r ++ s)) (hdR (r ++ s)) = true → mR k r ≤ n → r ++ s ∈ tre E k n r
  | [], n, r, hr, h, hc, hm => by
    rw [List.append_nil] at *
    have : r ∈ clo E r := by unfold clo; rw [if_pos hc]; exact List.mem_singleton.mpr rfl
    cases n with
    | zero => exact this
    | succ n => exact List.mem_append_left _ this
  | o :: s, n, r, hr, h, hc, hm => by
    have e : r ++ o :: s = (r ++ [o]) ++ s := by rw [List.append_assoc]; rfl
    have hhd : hdR (r ++ o :: s) = hdR r := by
      cases r with
      | nil => exact absurd rfl hr
      | cons a r => rfl
    have ho : o ∈ exR E k r := by
      have nd := List.nodup_append.mp h.nd
      have hno : o ∉ r := fun q => nd.2.2 o q o (by simp) rfl
      have hne : hdR r ≠ o := fun q => hno (by rw [← q]; exact hd_mem hr)
      have hle := h.le o (by simp)
      rw [hhd] at hle
      exact List.mem_filter.mpr ⟨List.mem_filter.mpr ⟨List.mem_range.mpr (h.lt o (by simp)), av_iff.mpr ⟨by omega, hno⟩⟩, ((ch_app r o s).mp h.ch).2.2 hr⟩
    have hm2 := m_child hr ho
    cases n with
    | zero => omega
    | succ n =>
      rw [e] at h hc ⊢
      exact List.mem_append_right _ (List.mem_flatMap.mpr ⟨o, ho, ring_tre s n (r ++ [o]) ne_app h hc (by omega)⟩)
theorem allR_iff (hk : k ≤ 7) : x ∈ allR E k ↔ PathP E k x ∧ E (laR x) (hdR x) = true := by
  constructor
  · intro h
    obtain ⟨a, ha, hx⟩ := List.mem_flatMap.mp h
    exact tre_ring 7 [a] x ⟨by simp, fun b hb => by rw [List.mem_singleton.mp hb]; exact List.mem_range.mp ha, List.pairwise_singleton _ _, fun b hb => by rw [List.mem_singleton.mp hb]; exact Nat.le_refl _, trivial⟩ hx
  · rintro ⟨h, hc⟩
    cases x with
    | nil => exact absurd rfl h.ne
    | cons a s =>
      refine List.mem_flatMap.mpr ⟨a, List.mem_range.mpr (h.lt a List.mem_cons_self), ring_tre s 7 [a] (by simp) h hc (Nat.le_trans m_le hk)⟩
end
end Vw
set_option maxRecDepth 100000
set_option maxHeartbeats 4000000
namespace Vw
open PySem PySem.Spec L2
abbrev encR (r : List Nat) : PyData := .tuple [.int ((r.length : Nat) : Int), rowP' r]
abbrev ltD (x y : List Nat) : Bool := PySem.W.dataLt (encR x) (encR y)
theorem eqv_lt {x y : PyData} (h : PySem.W.alike x y = true) (e : PyData.eqv x y = true) : PySem.W.dataLt x y = false := by
  unfold PySem.W.dataLt
  rw [(PySem.W.toks_eqv x y h).1 e]
  exact PyProof.Rows.lex_irrefl _
theorem lt_rows (x y : List Nat) : PySem.W.dataLt (rowP' x) (rowP' y) = decide (natL x < natL y) := by
  show PySem.W.dataLt (.tuple ((natL x).map .int)) (.tuple ((natL y).map .int)) = _
  rw [PySem.W.dataLt_tuple]
  exact PySem.W.dataLt_ints _ _
theorem al_rows (x y : List Nat) : PySem.W.alike (rowP' x) (rowP' y) = true := PySem.W.alike_ints _ _
theorem lt_enc (x y : List Nat) : ltD x y = decide (x.length < y.length ∨ (x.length = y.length ∧ natL x < natL y)) := by
  unfold ltD
  rw [PySem.W.dataLt_pair (by rfl) (al_rows x y), PySem.W.dataLt_int, lt_rows]
  have e1 : PyData.eqv (.int ((x.length : Nat) : Int)) (.int ((y.length : Nat) : Int)) = decide (x.length = y.length) := by
    show (((x.length : Nat) : Int) == ((y.length : Nat) : Int)) = _
    by_cases h : x.length = y.length
    · rw [h]; simp
    · rw [decide_eq_false h]
      exact beq_eq_false_iff_ne.mpr (by omega)
  have e2 : (if PyData.eqv (rowP' x) (rowP' y) = true then false else decide (natL x < natL y)) = decide (natL x < natL y) := by
    by_cases h : PyData.eqv (rowP' x) (rowP' y) = true
    · rw [if_pos h, ← lt_rows, eqv_lt (al_rows x y) h]
    · rw [if_neg h]
  rw [e1, e2]
  by_cases h : x.length = y.length
  · rw [decide_eq_true h, if_pos rfl]
    exact decide_eq_decide.mpr ⟨fun q => .inr ⟨h, q⟩, fun q => by rcases q with q | q
                                                                  · omega
                                                                  · exact q.2⟩
  · rw [decide_eq_false h, if_neg Bool.false_ne_true]
    exact decide_eq_decide.mpr ⟨fun q => .inl (by omega), fun q => by rcases q with q | q
                                                                      · omega
                                                                      · exact absurd q.1 h⟩
theorem natL_inj {x y : List Nat} (h : natL x = natL y) : x = y := by
  induction x generalizing y with
  | nil =>
    cases y with
    | nil => rfl
    | cons b y => cases h
  | cons a x ih =>
    cases y with
    | nil => cases h
    | cons b y =>
      have h0 : (a : Int) :: natL x = (b : Int) :: natL y := h
      have h1 : (a : Int) = b := (List.cons.inj h0).1
      rw [ih (List.cons.inj h0).2, show a = b by omega]
theorem lt_anti {x y : List Nat} (h1 : ltD x y = false) (h2 : ltD y x = false) : x = y := by
  rw [lt_enc] at h1 h2
  have q1 := of_decide_eq_false h1
  have q2 := of_decide_eq_false h2
  have e : x.length = y.length := by omega
  refine natL_inj (List.le_antisymm (fun q => q2 (.inr ⟨e.symm, q⟩)) (fun q => q1 (.inr ⟨e, q⟩)))
abbrev leD (x y : List Nat) : Bool := !ltD y x
theorem leD_total : PySem.W.TotalLe leD := PySem.W.sortLe_total (PyProof.Rows.listOrd PyProof.Rows.itemOrd) false fun b : List Nat => PySem.W.keyToks (encR b)
/-- the first of the least -/
def minR (p : List Nat) (rest : List (List Nat)) : List Nat := rest.foldl (fun a y => if ltD y a then y else a) p
theorem minR_enc : ∀ (rest : List (List Nat)) (p : List Nat), PySem.W.minD (encR p) (rest.map encR) = encR (minR p rest)
  | [], _ => rfl
  | y :: rest, p => by
    show PySem.W.minD (if ltD y p = true then encR y else encR p) (rest.map encR) = encR (minR (if ltD y p = true then y else p) rest)
    by_cases h : ltD y p = true
    · rw [if_pos h, if_pos h]; exact minR_enc rest y
    · rw [if_neg h, if_neg h]; exact minR_enc rest p
theorem minR_ok : ∀ (rest : List (List Nat)) (p : List Nat), minR p rest ∈ p :: rest ∧ ∀ b ∈ p :: rest, leD (minR p rest) b = true
  | [], p => ⟨List.mem_cons_self, fun b hb => by rw [List.mem_singleton.mp hb]; rcases leD_total.total p p with h | h <;> exact h⟩
  | y :: rest, p => by
    by_cases h : ltD y p = true
    · obtain ⟨h1, h2⟩ := minR_ok rest y
      have e : minR p (y :: rest) = minR y rest := by show minR (if ltD y p = true then y else p) rest = _; rw [if_pos h]
      rw [e]
      refine ⟨List.mem_cons_of_mem _ h1, fun b hb => ?_⟩
      rcases List.mem_cons.mp hb with rfl | hb
      · have q : leD y b = true := by
          rcases leD_total.total y b with q | q
          · exact q
          · unfold leD at q; rw [h] at q; cases q
        exact leD_total.trans _ _ _ (h2 y List.mem_cons_self) q
      · exact h2 b hb
    · obtain ⟨h1, h2⟩ := minR_ok rest p
      have e : minR p (y :: rest) = minR p rest := by show minR (if ltD y p = true then y else p) rest = _; rw [if_neg h]
      rw [e]
      refine ⟨?_, fun b hb => ?_⟩
      · rcases List.mem_cons.mp h1 with q | q
        · rw [q]; exact List.mem_cons_self
        · exact List.mem_cons_of_mem _ (List.mem_cons_of_mem _ q)
      · rcases List.mem_cons.mp hb with rfl | hb
        · exact h2 b List.mem_cons_self
        · rcases List.mem_cons.mp hb with rfl | hb
          · have q : leD p b = true := by
              show (!ltD b p) = true
              cases hq : ltD b p with
              | true => exact absurd hq h
              | false => rfl
            exact leD_total.trans _ _ _ (h2 p List.mem_cons_self) q
          · exact h2 b (List.mem_cons_of_mem _ hb)
def leastL : List (List Nat) → Option (List Nat)
  | [] => none
  | p :: rest => some (minR p rest)
theorem leastL_uniq {l : List (List Nat)} {a : List Nat} (ha : a ∈ l) (h : ∀ b ∈ l, leD a b = true) : leastL l = some a := by
  cases l with
  | nil => cases ha
  | cons p rest =>
    obtain ⟨h1, h2⟩ := minR_ok rest p
    have e : minR p rest = a := lt_anti (by have := h _ h1; simpa using this) (by have := h2 a ha; simpa using this)
    show some _ = _
    rw [e]
end Vw
set_option maxRecDepth 100000
set_option maxHeartbeats 4000000
namespace Vw
open PySem PySem.Spec L2
noncomputable section
def d_grleast : DS :=
    (dSeq (dAsg (dCallF 1 (dCons (dVar 0) dNil) fn_grall) (dgName 1))
    (dSeq (dRet (dIf (dTruA (dVar 1)) (dBin opIx (dCall opMinD (dCons (dLc false [2] (dSeqI (dVar 1)) (dgName 2) dYes (dTup (dCons (dCall opLen (dCons (dVar 2) dNil)) (dCons (dVar 2) dNil)))) dNil)) (dCon (.int 1))) (dCon .non)))
    dSkip))
def fn_grleast : DF := dDef 3 d_grleast
def d_grbow : DS :=
    (dSeq (dRet (dCallF 1 (dCons (dCallF 2 (dCons (dVar 0) (dCons (dTup (dCons (dCon (.str ("bow" : Str))) dNil)) dNil)) fn_grfoll) dNil) fn_grleast))
    dSkip)
def fn_grbow : DF := dDef 1 d_grbow
abbrev enD (r : List Nat) : D := .tup [.int ((r.length : Nat) : Int), rowV r]
def optR : Option (List Nat) → D
  | none => .non
  | some r => rowV r
def leastR (E : Nat → Nat → Bool) (k : Nat) : Option (List Nat) := leastL (allR E k)
section
variable {E : Nat → Nat → Bool} {k : Nat} {M : Nat → Nat → Str} {ws : List (List Int)} {es : List Int} {S : Sto} {words : List Str}
theorem en_py {fl : Nat → Option PyData} {r : List Nat} : toP fl (enD r) = some (encR r) := by
  show (toPs fl [.int ((r.length : Nat) : Int), rowV r]).map PyData.tuple = _
  have e : toP fl (rowV r) = some (rowP' r) := intsP_of
  show (((toP fl (.int ((r.length : Nat) : Int))).bind fun p => ((toP fl (rowV r)).bind fun q => (some []).map (q :: ·)).map (p :: ·)).map PyData.tuple) = _
  rw [e]; rfl
theorem en_ps (l : List (List Nat)) : psOf S (l.map enD) = some (l.map encR) := toPs_map (f := enD) (g := encR) fun r _ => en_py
theorem en_ok (l : List (List Nat)) : okSort (l.map encR) = true := by
  unfold okSort
  rw [Bool.and_eq_true, Bool.and_eq_true]
  refine ⟨⟨List.all_eq_true.mpr fun x hx => List.all_eq_true.mpr fun y hy => ?_, List.all_eq_true.mpr fun x hx => ?_⟩, List.all_eq_true.mpr fun x hx => ?_⟩
  · obtain ⟨a, _, rfl⟩ := List.mem_map.mp hx
    obtain ⟨b, _, rfl⟩ := List.mem_map.mp hy
    show (PySem.W.alike (.int ((a.length : Nat) : Int)) (.int ((b.length : Nat) : Int)) && (PySem.W.alike (rowP' a) (rowP' b) && PySem.W.alikeAll [] [])) = true
    rw [al_rows]; rfl
  · obtain ⟨a, _, rfl⟩ := List.mem_map.mp hx
    rfl
  · obtain ⟨a, _, rfl⟩ := List.mem_map.mp hx
    refine decide_eq_true ?_
    show max 0 (max (PyData.depthAll ((natL a).map PyData.int) + 1) 0) + 1 ≤ 50
    rw [dep_row]
    decide
theorem en_lc {G : Gam} {w : DI} {src : Src} {l : List (List Nat)} {S0 : Sto} {v : Nat} (hw : w G S0 = some (src, l.length + 1, S)) (hsrc : ∀ i, src i S = some (l.map rowV)[i]?) (hv : v < (wipeG G [v]).length) (hl : l.length ≤ 1000000) :
    dLc false [v] w (dgName v) dYes (dTup (dCons (dCall opLen (dCons (dVar v) dNil)) (dCons (dVar v) dNil))) G S0 = some (.lst (l.map enD), S) := by
  have e := lc_pureY (c := false) (own := [v]) (g := dgName v) (f := dTup (dCons (dCall opLen (dCons (dVar v) dNil)) (dCons (dVar v) dNil))) (l := l) (e := rowV) hw rfl hsrc enD fun r _ => by
    have hg : ((wipeG G [v]).set v (some (rowV r)))[v]? = some (some (rowV r)) := List.getElem?_set_self hv
    refine ⟨(wipeG G [v]).set v (some (rowV r)), rfl, ?_⟩
    have a := dVar_at (S := S) hg
    refine dTup_of (ds := [.int ((r.length : Nat) : Int), rowV r]) (dCons_of (dCall_of (dOne_of a) ?_) (dOne_of a)) (by show 2 ≤ 1000000; decide)
    have := len_seq (S := S) (x := rowV r) rfl
    rw [intL_len, natL_len] at this
    exact this
  exact e.trans (okv (by rw [List.length_map]; exact hl))
theorem grleast_ok (hk : k ≤ 7) : ∃ S', fn_grleast [folV E k] S = some (optR (leastR E k), S') ∧ Pre S S' := by
  obtain ⟨S1, e1, p1⟩ := grall_ok (E := E) (S := S) hk
  have hPl := allR_len (E := E) (k := k) hk
  let R : Option D := some (.lst ((allR E k).map rowV))
  let G : Gam := [some (folV E k), R, none]
  have f1 : dAsg (dCallF 1 (dCons (dVar 0) dNil) fn_grall) (dgName 1) [some (folV E k), none, none] S = some (.nx, G, S1) := dAsg_of (dCallF_of (dOne_of rfl) rfl e1)
  have ct : dTruA (dVar 1) G S1 = some (!((allR E k).map rowV).isEmpty, S1) := rfl
  refine ⟨S1, dFn_rt (G' := G) ((dSeq_nx f1).trans (dRetS_of ?_)), p1⟩
  unfold leastR
  cases hP : allR E k with
  | nil =>
    rw [hP] at ct
    exact (dIf_f ct).trans rfl
  | cons p rest =>
    have ct' : dTruA (dVar 1) G S1 = some (true, S1) := by rw [ct, hP]; rfl
    refine (dIf_t ct').trans ?_
    have hw : dSeqI (dVar 1) G S1 = some (fixS ((allR E k).map rowV), (allR E k).length + 1, S1) := by
      have := dSeqI_l (f := dVar 1) (G := G) (S := S1) (S1 := S1) (ds := (allR E k).map rowV) rfl
      rw [List.length_map] at this
      exact this
    have el := en_lc (G := G) (v := 2) hw fix_src (by show 2 < 3; decide) (by omega)
    obtain ⟨m1, m2⟩ := minR_ok rest p
    have em : opMinD [.lst ((allR E k).map enD)] S1 = some (enD (minR p rest), S1) := by
      refine minD_of (l := allR E k) (f := enD) (g := encR) (p := encR p) (rest := rest.map encR) rfl (en_ps _) (by rw [hP]; rfl) (en_ok _) (by rw [hP]; exact m1) (minR_enc rest p).symm fun b _ he => ?_
      have : b = minR p rest := lt_anti (by show PySem.W.dataLt (encR b) _ = _; rw [he]; rcases leD_total.total (minR p rest) (minR p rest) with q | q <;> simpa using q) (by show PySem.W.dataLt _ (encR b) = _; rw [he]; rcases leD_total.total (minR p rest) (minR p rest) with q | q <;> simpa using q)
      rw [this]
    exact dBin_of (x := enD (minR p rest)) (y := .int (1 : Nat)) (S1 := S1) (S2 := S1) (dCall_of (dOne_of el) em) rfl (ix_seq' rfl rfl)
theorem grbow_ok (hk : k ≤ 7) : ∃ S', fn_grbow [lockD k M ws es] S = some (optR (leastR (edgM M ["bow"]) k), S') ∧ Pre S S' := by
  obtain ⟨S', e, p⟩ := grleast_ok (E := edgM M ["bow"]) (S := S) hk
  refine ⟨S', dFn_rt (G' := [some (lockD k M ws es)]) (dRetS_of (dCallF_of (ds := [folV (edgM M ["bow"]) k]) (S1 := S) (dOne_of (dCallF_of (ds := [lockD k M ws es, .tup ((["bow"] : List Str).map D.str)]) (S1 := S) (dCons_of rfl (dOne_of (dTup_of (ds := (["bow"] : List Str).map D.str) (S1 := S) rfl (by decide)))) rfl (grfoll_ok (by omega)))) rfl e)), p⟩
end
end
end Vw
set_option maxRecDepth 100000
set_option maxHeartbeats 4000000
namespace Vw
open PySem PySem.Spec L2
section
variable {E : Nat → Nat → Bool} {k n : Nat} {r s : List Nat}
/-- all ways of n + 1 hands -/
def lvR (E : Nat → Nat → Bool) (k : Nat) : Nat → List (List Nat)
  | 0 => (List.range k).map fun h => [h]
  | n + 1 => (lvR E k n).flatMap fun r => (exR E k r).map fun o => r ++ [o]
theorem PathP.one {h : Nat} (hh : h < k) : PathP E k [h] := ⟨by simp, fun b hb => by rw [List.mem_singleton.mp hb]; exact hh, List.pairwise_singleton _ _, fun b hb => by rw [List.mem_singleton.mp hb]; exact Nat.le_refl _, trivial⟩
theorem PathP.init {o : Nat} (hr : r ≠ []) (h : PathP E k (r ++ [o])) : PathP E k r ∧ o ∈ exR E k r := by
  obtain ⟨c1, _, c3⟩ := (ch_app r o []).mp h.ch
  have nd := List.nodup_append.mp h.nd
  have hh := hd_app (o := o) hr
  refine ⟨⟨hr, fun a ha => h.lt a (List.mem_append_left _ ha), nd.1, fun a ha => ?_, c1⟩, ?_⟩
  · have := h.le a (List.mem_append_left _ ha)
    rwa [hh] at this
  · refine List.mem_filter.mpr ⟨List.mem_filter.mpr ⟨List.mem_range.mpr (h.lt o (List.mem_append_right _ (List.mem_singleton.mpr rfl))), av_iff.mpr ?_⟩, c3 hr⟩
    have nm : o ∉ r := fun q => nd.2.2 o q o (List.mem_singleton.mpr rfl) rfl
    have := h.le o (List.mem_append_right _ (List.mem_singleton.mpr rfl))
    rw [hh] at this
    refine ⟨?_, nm⟩
    rcases Nat.lt_or_ge (hdR r) o with q | q
    · exact q
    · have e : o = hdR r := by omega
      exact absurd (e ▸ hd_mem hr) nm
theorem lv_iff : ∀ (n : Nat) (r : List Nat), r ∈ lvR E k n ↔ PathP E k r ∧ r.length = n + 1
  | 0, r => by
    constructor
    · intro h
      obtain ⟨a, ha, rfl⟩ := List.mem_map.mp h
      exact ⟨.one (List.mem_range.mp ha), rfl⟩
    · rintro ⟨h, hl⟩
      match r, hl with
      | [a], _ => exact List.mem_map.mpr ⟨a, List.mem_range.mpr (h.lt a List.mem_cons_self), rfl⟩
  | n + 1, r => by
    constructor
    · intro h
      obtain ⟨x, hx, hr⟩ := List.mem_flatMap.mp h
      obtain ⟨o, ho, rfl⟩ := List.mem_map.mp hr
      obtain ⟨h1, h2⟩ := (lv_iff n x).mp hx
      exact ⟨h1.step ho, by rw [List.length_append, h2]; rfl⟩
    · rintro ⟨h, hl⟩
      rcases List.eq_nil_or_concat r with rfl | ⟨x, o, rfl⟩
      · cases hl
      · rw [List.concat_eq_append] at *
        have hxl : x.length = n + 1 := by rw [List.length_append] at hl; exact Nat.succ.inj hl
        have hx : x ≠ [] := by intro q; rw [q] at hxl; cases hxl
        obtain ⟨h1, h2⟩ := h.init hx
        exact List.mem_flatMap.mpr ⟨x, (lv_iff n x).mpr ⟨h1, hxl⟩, List.mem_map.mpr ⟨o, h2, rfl⟩⟩
theorem lv_len : ∀ n : Nat, (lvR E k n).length ≤ k ^ (n + 1)
  | 0 => by unfold lvR; rw [List.length_map, List.length_range, Nat.pow_one]; exact Nat.le_refl _
  | n + 1 => by
    have ih := lv_len n
    have h : ∀ l : List (List Nat), (l.flatMap fun r => (exR E k r).map fun o => r ++ [o]).length ≤ l.length * k := fun l => by
      induction l with
      | nil => simp
      | cons a l ih =>
        rw [List.flatMap_cons, List.length_append, List.length_map, List.length_cons, Nat.succ_mul]
        have : (exR E k a).length ≤ k := Nat.le_trans ex_len m_le
        omega
    show (List.flatMap _ (lvR E k n)).length ≤ k ^ (n + 1 + 1)
    rw [Nat.pow_succ]
    exact Nat.le_trans (h _) (Nat.mul_le_mul_right _ ih)
theorem lv_len6 (hk : k ≤ 6) (hn : n ≤ 5) : (lvR E k n).length ≤ 46656 := by
  refine Nat.le_trans (lv_len n) (Nat.le_trans (Nat.pow_le_pow_left hk _) ?_)
  have : 6 ^ (n + 1) ≤ 6 ^ 6 := Nat.pow_le_pow_right (by decide) (by omega)
  exact Nat.le_trans this (by decide)
theorem lex_lt : ∀ x y : List Int, lexL x y = decide (x < y)
  | [], [] => by rw [decide_eq_false (List.not_lt_nil _)]; rfl
  | [], _ :: _ => by rw [decide_eq_true (List.nil_lt_cons _ _)]; rfl
  | _ :: _, [] => by rw [decide_eq_false (List.not_lt_nil _)]; rfl
  | x :: xs, y :: ys => by
    unfold lexL
    by_cases e : x = y
    · subst e
      rw [if_pos rfl, lex_lt xs ys]
      exact decide_eq_decide.mpr ⟨fun h => List.cons_lt_cons_iff.mpr (.inr ⟨rfl, h⟩), fun h => by
        rcases List.cons_lt_cons_iff.mp h with q | q
        · exact absurd q (Int.lt_irrefl _)
        · exact q.2⟩
    · rw [if_neg e]
      exact decide_eq_decide.mpr ⟨fun h => List.cons_lt_cons_iff.mpr (.inl h), fun h => by
        rcases List.cons_lt_cons_iff.mp h with q | q
        · exact q
        · exact absurd q.1 e⟩
def clR (E : Nat → Nat → Bool) (k n : Nat) : List (List Nat) := (lvR E k n).filter fun r => E (laR r) (hdR r)
theorem cl_iff : r ∈ clR E k n ↔ PathP E k r ∧ r.length = n + 1 ∧ E (laR r) (hdR r) = true := by
  unfold clR
  rw [List.mem_filter, lv_iff]
  exact ⟨fun h => ⟨h.1.1, h.1.2, h.2⟩, fun h => ⟨⟨h.1, h.2.1⟩, h.2.2⟩⟩
/-- the head of the first level that has rings is the least ring -/
theorem cl_least (hk : k ≤ 7) {h : List Int} {t : List (List Int)} (e : sortL ((clR E k n).map natL) = h :: t) (no : ∀ m, m < n → clR E k m = []) : ∃ r, h = natL r ∧ leastR E k = some r := by
  have pm := sortL_perm ((clR E k n).map natL)
  have pw := sortL_pw ((clR E k n).map natL)
  rw [e] at pm pw
  obtain ⟨r, hr, rfl⟩ := List.mem_map.mp (pm.mem_iff.mp List.mem_cons_self)
  obtain ⟨h1, h2, h3⟩ := cl_iff.mp hr
  refine ⟨r, rfl, leastL_uniq ((allR_iff hk).mpr ⟨h1, h3⟩) fun b hb => ?_⟩
  obtain ⟨b1, b3⟩ := (allR_iff hk).mp hb
  have hbn : n + 1 ≤ b.length := by
    rcases Nat.lt_or_ge b.length (n + 1) with q | q
    · have hb0 : 0 < b.length := List.length_pos_iff.mpr b1.ne
      have hm := no (b.length - 1) (by omega)
      have : b ∈ clR E k (b.length - 1) := cl_iff.mpr ⟨b1, by omega, b3⟩
      rw [hm] at this
      cases this
    · exact q
  show (!ltD b r) = true
  rw [lt_enc, h2]
  refine (Bool.not_eq_true' _).mpr (decide_eq_false fun q => ?_)
  rcases q with q | ⟨q1, q2⟩
  · omega
  · have hb' : b ∈ clR E k n := cl_iff.mpr ⟨b1, q1, b3⟩
    rcases List.mem_cons.mp (pm.mem_iff.mpr (List.mem_map.mpr ⟨b, hb', rfl⟩)) with z | z
    · rw [z] at q2
      exact absurd q2 (List.lt_irrefl _)
    · have := (List.pairwise_cons.mp pw).1 _ z
      rw [lex_lt] at this
      exact absurd q2 (of_decide_eq_false this)
theorem nodup_subL : ∀ (l l2 : List Nat), l.Nodup → (∀ a ∈ l, a ∈ l2) → l.length ≤ l2.length
  | [], _, _, _ => Nat.zero_le _
  | a :: l, l2, nd, hs => by
    have ha := hs a List.mem_cons_self
    rw [List.nodup_cons] at nd
    have := nodup_subL l (l2.erase a) nd.2 fun b hb => (List.mem_erase_of_ne (fun q : b = a => nd.1 (by rw [← q]; exact hb))).mpr (hs b (List.mem_cons_of_mem _ hb))
    rw [List.length_erase_of_mem ha] at this
    have := List.length_pos_of_mem ha
    rw [List.length_cons]
    omega
theorem PathP.len (h : PathP E k r) : r.length ≤ k := by
  have := nodup_subL r (List.range k) h.nd fun a ha => List.mem_range.mpr (h.lt a ha)
  rwa [List.length_range] at this
theorem cl_none (hk : k ≤ 7) (no : ∀ m, m < k → clR E k m = []) : leastR E k = none := by
  have e : allR E k = [] := by
    refine List.eq_nil_iff_forall_not_mem.mpr fun b hb => ?_
    obtain ⟨b1, b3⟩ := (allR_iff hk).mp hb
    have hb0 : 0 < b.length := List.length_pos_iff.mpr b1.ne
    have := b1.len
    have : b ∈ clR E k (b.length - 1) := cl_iff.mpr ⟨b1, by omega, b3⟩
    rw [no _ (by omega)] at this
    cases this
  unfold leastR
  rw [e]; rfl
end
def d_brlaw : DS :=
    (dSeq (dAsg (dLc false [7] (dRng1 (dCons (dCall opLen (dCons (dVar 0) dNil)) dNil)) (dgName 7) dYes (dTup (dCons (dVar 7) dNil))) (dgName 1))
    (dSeq (dFor (dRng2 (dCons (dCon (.int 2)) (dCons (dBin (opAdd false) (dCall opLen (dCons (dVar 0) dNil)) (dCon (.int 1))) dNil))) (dgName 2)
    (dSeq (dAsg (dLst true dNil) (dgName 3))
    (dSeq (dFor (dSeqI (dVar 1)) (dgName 4)
    (dSeq (dAsg (dLc false [7] (dRng2 (dCons (dBin (opAdd false) (dBin opIx (dVar 4) (dCon (.int 0))) (dCon (.int 1))) (dCons (dCall opLen (dCons (dVar 0) dNil)) dNil))) (dgName 7) (dCmpT (opIn true) (dVar 7) (dVar 4)) (dVar 7)) (dgName 5))
    (dSeq (dExpr (dMeth "list" opExtend (dVar 3) (dCons (dLc false [7] (dSeqI (dVar 5)) (dgName 7) (dCmpT (opEq false) (dBin opIx (dBin opIx (dVar 0) (dBin opIx (dVar 4) (dUn opNeg (dCon (.int 1))))) (dVar 7)) (dCon (.str ("bow" : Str)))) (dBin (opAdd false) (dVar 4) (dTup (dCons (dVar 7) dNil)))) dNil)))
    dSkip)))
    (dSeq (dAsg (dVar 3) (dgName 1))
    (dSeq (dAsg (dCall (opSortedL false) (dCons (dLc false [4] (dSeqI (dVar 1)) (dgName 4) (dCmpT (opEq false) (dBin opIx (dBin opIx (dVar 0) (dBin opIx (dVar 4) (dUn opNeg (dCon (.int 1))))) (dBin opIx (dVar 4) (dCon (.int 0)))) (dCon (.str ("bow" : Str)))) (dVar 4)) dNil)) (dgName 6))
    (dSeq (dIte (dCmpT (opEq true) (dVar 6) (dLst false dNil))
    (dSeq (dRet (dBin opIx (dVar 6) (dCon (.int 0))))
    dSkip) dSkip)
    dSkip))))))
    (dSeq (dRet (dCon .non))
    dSkip)))
def fn_brlaw : DF := dDef 8 d_brlaw
abbrev brC : DS := (dSeq (dAsg (dLc false [7] (dRng2 (dCons (dBin (opAdd false) (dBin opIx (dVar 4) (dCon (.int 0))) (dCon (.int 1))) (dCons (dCall opLen (dCons (dVar 0) dNil)) dNil))) (dgName 7) (dCmpT (opIn true) (dVar 7) (dVar 4)) (dVar 7)) (dgName 5))
    (dSeq (dExpr (dMeth "list" opExtend (dVar 3) (dCons (dLc false [7] (dSeqI (dVar 5)) (dgName 7) (dCmpT (opEq false) (dBin opIx (dBin opIx (dVar 0) (dBin opIx (dVar 4) (dUn opNeg (dCon (.int 1))))) (dVar 7)) (dCon (.str ("bow" : Str)))) (dBin (opAdd false) (dVar 4) (dTup (dCons (dVar 7) dNil)))) dNil)))
    dSkip))
abbrev brB : DS := (dSeq (dAsg (dLst true dNil) (dgName 3))
    (dSeq (dFor (dSeqI (dVar 1)) (dgName 4)
    brC)
    (dSeq (dAsg (dVar 3) (dgName 1))
    (dSeq (dAsg (dCall (opSortedL false) (dCons (dLc false [4] (dSeqI (dVar 1)) (dgName 4) (dCmpT (opEq false) (dBin opIx (dBin opIx (dVar 0) (dBin opIx (dVar 4) (dUn opNeg (dCon (.int 1))))) (dBin opIx (dVar 4) (dCon (.int 0)))) (dCon (.str ("bow" : Str)))) (dVar 4)) dNil)) (dgName 6))
    (dSeq (dIte (dCmpT (opEq true) (dVar 6) (dLst false dNil))
    (dSeq (dRet (dBin opIx (dVar 6) (dCon (.int 0))))
    dSkip) dSkip)
    dSkip)))))
section
variable {k : Nat} {M : Nat → Nat → Str} {S : Sto} {r : List Nat}
theorem neRl {xs : List (List Int)} : opEq true (.lst (xs.map fun ns => D.tup (ns.map D.int))) (.lst []) S = some (.bl (!xs.isEmpty), S) := by
  cases xs with
  | nil => rfl
  | cons r l =>
    unfold opEq eqD
    rw [show eqS (.lst ((r :: l).map fun ns => D.tup (ns.map D.int))) (.lst []) = none from rfl]
    show (eqP S (.lst ((r :: l).map fun ns => D.tup (ns.map D.int))) (.lst [])).map _ = _
    unfold eqP
    have e1 : pyOf S (.lst ((r :: l).map fun ns => D.tup (ns.map D.int))) = some (.list ((r :: l).map intsP)) := by
      show (toPs _ ((r :: l).map fun ns => D.tup (ns.map D.int))).map PyData.list = _
      rw [toPs_map (f := fun ns : List Int => D.tup (ns.map D.int)) (g := intsP) fun r _ => intsP_of]; rfl
    have e2 : pyOf S (.lst []) = some (.list []) := rfl
    have c0 : ∀ l : List Int, PyData.canLayAll0 (l.map PyData.int) = true := fun l => by
      induction l with
      | nil => rfl
      | cons a l ih => show (true && PyData.canLayAll0 (l.map PyData.int)) = true; rw [ih]; rfl
    have d0 : ∀ l : List Int, PyData.depthAll (l.map PyData.int) = 0 := fun l => by
      induction l with
      | nil => rfl
      | cons a l ih => show max 0 (PyData.depthAll (l.map PyData.int)) = 0; rw [ih]; rfl
    have ca : ∀ l : List (List Int), PyData.canLayAll0 (l.map intsP) = true := fun l => by
      induction l with
      | nil => rfl
      | cons a l ih =>
        show (PyData.canLayAll0 (a.map PyData.int) && PyData.canLayAll0 (l.map intsP)) = true
        rw [c0 a, ih]; rfl
    have de : ∀ l : List (List Int), PyData.depthAll (l.map intsP) ≤ 1 := fun l => by
      induction l with
      | nil => exact Nat.zero_le _
      | cons a l ih =>
        show max (PyData.depthAll (a.map PyData.int) + 1) (PyData.depthAll (l.map intsP)) ≤ 1
        rw [d0 a]
        omega
    have hs : SeqAt.shaped (.list ((r :: l).map intsP)) = true := by
      unfold SeqAt.shaped
      have h1 := de (r :: l)
      have h2 : (PyData.list ((r :: l).map intsP)).depth = PyData.depthAll ((r :: l).map intsP) + 1 := rfl
      rw [show (PyData.list ((r :: l).map intsP)).canLay0 = true from ca (r :: l), decide_eq_true (by omega)]; rfl
    rw [e1, e2]
    simp only [Option.bind_some]
    rw [hs, show SeqAt.shaped (.list []) = true from shaped_ints []]
    rfl
/-- the value at the name 1: a list, be it as it was made or a cell -/
def IsL (S : Sto) (x : D) (ds : List D) : Prop := x = .lst ds ∨ ∃ n, x = .loc n ∧ S[n]? = some (Cell.lst ds)
theorem IsL.app {S R : Sto} {x : D} {ds : List D} (h : IsL S x ds) : IsL (S ++ R) x ds := by
  rcases h with rfl | ⟨n, rfl, q⟩
  · exact .inl rfl
  · exact .inr ⟨n, rfl, by rw [List.getElem?_append_left (List.getElem?_eq_some_iff.mp q).1]; exact q⟩
theorem IsL.src {S : Sto} {x : D} {ds : List D} {f : DE} {G : Gam} (h : IsL S x ds) (hf : f G S = some (x, S)) : ∃ src, dSeqI f G S = some (src, ds.length + 1, S) ∧ ∀ S', IsL S' x ds → ∀ i, src i S' = some ds[i]? := by
  rcases h with rfl | ⟨n, rfl, q⟩
  · refine ⟨fixS ds, dSeqI_l hf, fun S' _ i => rfl⟩
  · refine ⟨celS n, dSeqI_c hf q, fun S' h i => ?_⟩
    rcases h with h | ⟨m, h, q'⟩
    · cases h
    · cases h
      exact cel_at q'
theorem brlaw_ok (hk : k ≤ 6) (h2 : 2 ≤ k) (dia : ∀ a, a < k → M a a ≠ "bow") : ∃ S', fn_brlaw [gridD k M] S = some (optR (leastR (edgM M ["bow"]) k), S') ∧ Pre S S' := by
  let E := edgM M ["bow"]
  have hE : ∀ a b, E a b = decide (M a b = "bow") := fun a b => by
    show decide (M a b ∈ (["bow"] : List Str)) = _
    exact decide_eq_decide.mpr ⟨fun h => List.mem_singleton.mp h, fun h => List.mem_singleton.mpr h⟩
  let G (d1 d2 d3 d4 d5 d6 d7 : Option D) : Gam := [some (gridD k M), d1, d2, d3, d4, d5, d6, d7]
  let G0 : Gam := G none none none none none none none
  have ln : ∀ (G : Gam) (S : Sto), G[0]? = some (some (gridD k M)) → dCall opLen (dCons (dVar 0) dNil) G S = some (.int (k : Nat), S) := fun G S h => dCall_of (dOne_of (dVar_at h)) len_grid
  have hr := rng1_ok (fs := dCons (dCall opLen (dCons (dVar 0) dNil)) dNil) (k := k) (G := G0) (S := S) (dOne_of (ln G0 S rfl)) (by omega)
  rw [rng_map] at hr
  have el := lc_pureY (c := false) (own := [7]) (g := dgName 7) (f := dTup (dCons (dVar 7) dNil)) (G := G0) (l := List.range k) (e := fun i => D.int (i : Nat)) hr (by rw [List.length_range]) fix_src (fun h => rowV [h]) fun h _ => ⟨[some (gridD k M), none, none, none, none, none, none, some (.int (h : Nat))], rfl, dTup_of (ds := [.int (h : Nat)]) (S1 := S) rfl (by show 1 ≤ 1000000; decide)⟩
  rw [okv (by rw [List.length_map, List.length_range]; omega), show (List.range k).map (fun h => rowV [h]) = (lvR E k 0).map rowV from by show _ = (List.map _ _).map _; rw [List.map_map]; rfl] at el
  let D0 : D := .lst ((lvR E k 0).map rowV)
  have f1 : dAsg (dLc false [7] (dRng1 (dCons (dCall opLen (dCons (dVar 0) dNil)) dNil)) (dgName 7) dYes (dTup (dCons (dVar 7) dNil))) (dgName 1) G0 S = some (.nx, G (some D0) none none none none none none, S) := dAsg_of el
  have hrr := rng2_ok (fs := dCons (dCon (.int 2)) (dCons (dBin (opAdd false) (dCall opLen (dCons (dVar 0) dNil)) (dCon (.int 1))) dNil)) (a := 2) (k := k + 1) (G := G (some D0) none none none none none none) (S := S) (dCons_of rfl (dOne_of (dBin_of (ln _ S rfl) rfl rfl))) (by omega) (by omega)
  have no0 : ∀ m, m ≤ 0 → clR E k m = [] := fun m hm => by
    have : m = 0 := by omega
    subst this
    refine List.filter_eq_nil_iff.mpr fun r hr => ?_
    obtain ⟨a, ha, rfl⟩ := List.mem_map.mp hr
    show ¬ (E a a = true)
    rw [hE]
    exact fun q => dia a (List.mem_range.mp ha) (of_decide_eq_true q)
  obtain ⟨fl, G3, S3, e3, h3⟩ := for_ret (src := fixS (rngD ((2 : Nat) : Int) ((k + 1 : Nat) : Int))) (g := dgName 2) (b := brB) (ds := rngD ((2 : Nat) : Int) ((k + 1 : Nat) : Int))
    (fun t G' S' => ∃ (d1 : D) (d2 d3 d4 d5 d6 : Option D), G' = G (some d1) d2 d3 d4 d5 d6 none ∧ IsL S' d1 ((lvR E k t).map rowV) ∧ (∀ m, m ≤ t → clR E k m = []) ∧ Pre S S') (fun v S' => v = optR (leastR E k) ∧ Pre S S') (fun i G' S' h => rfl)
    (fun t G' S' d hd h => by
      obtain ⟨d1, d2, d3, d4, d5, d6, rfl, w1, no, pr0⟩ := h
      have ht : t < k + 1 - 2 := by have := (List.getElem?_eq_some_iff.mp hd).1; rwa [rngD_len2] at this
      rw [rngD_get2 ht] at hd
      cases hd
      let N2 : Option D := some (.int ((2 + t : Nat) : Int))
      let C := S'.length
      let S1 : Sto := S' ++ [Cell.lst []]
      let L3 : Option D := some (.loc C)
      have x1 : dAsg (dLst true dNil) (dgName 3) (G (some d1) N2 d3 d4 d5 d6 none) S' = some (.nx, G (some d1) N2 L3 d4 d5 d6 none, S1) := dAsg_of (show dLst true dNil _ S' = some (.loc S'.length, S' ++ [Cell.lst []]) from okc (xs := []) (S := S') (by show 0 ≤ 1000000; decide))
      obtain ⟨src, hw, hsrc⟩ := IsL.src (f := dVar 1) (G := G (some d1) N2 L3 d4 d5 d6 none) (w1.app (R := [Cell.lst []])) rfl
      rw [List.length_map] at hw
      have hll := lv_len6 (E := E) (n := t) hk (by omega)
      -- one level more
      obtain ⟨G4, S4, e4, d4', d5', rfl, w4, w1', pr4⟩ := for_inv (src := src) (g := dgName 4) (b := brC) (ds := (lvR E k t).map rowV)
        (fun i G' S'' => ∃ (d4 d5 : Option D), G' = G (some d1) N2 L3 d4 d5 d6 none ∧ S''[C]? = some (Cell.lst ((((lvR E k t).take i).flatMap fun r => (exR E k r).map fun o => r ++ [o]).map rowV)) ∧ IsL S'' d1 ((lvR E k t).map rowV) ∧ (Pre S S'' ∧ S''.length = C + 1)) (fun i G' S'' h => by
          obtain ⟨_, _, _, _, q, _⟩ := h
          exact hsrc S'' q i)
        (fun i G' S'' d hd h => by
          obtain ⟨d4, d5, rfl, wC, wL, pr, hlen⟩ := h
          have hi : i < (lvR E k t).length := by have := (List.getElem?_eq_some_iff.mp hd).1; rwa [List.length_map] at this
          rw [List.getElem?_map, List.getElem?_eq_getElem hi] at hd
          cases hd
          let r := (lvR E k t)[i]
          obtain ⟨hp, hrl⟩ := (lv_iff t r).mp (List.getElem_mem hi)
          have hr := hp.ne
          have lk := la_lt hr hp.lt
          let R : Option D := some (rowV r)
          have a0 : ∀ d5 d7 (S : Sto), dBin opIx (dVar 4) (dCon (.int 0)) (G (some d1) N2 L3 R d5 d6 d7) S = some (.int (hdR r : Nat), S) := fun d5 d7 S => dBin_of (x := rowV r) (y := .int 0) (S1 := S) (S2 := S) rfl rfl (ix_hd hr)
          have a1 : ∀ d5 d7 (S : Sto), dBin opIx (dVar 4) (dUn opNeg (dCon (.int 1))) (G (some d1) N2 L3 R d5 d6 d7) S = some (.int (laR r : Nat), S) := fun d5 d7 S => dBin_of (x := rowV r) (y := .int (-1)) (S1 := S) (S2 := S) rfl rfl (ix_la hr)
          have a2 : ∀ d5 d7 (S : Sto), dBin opIx (dVar 0) (dBin opIx (dVar 4) (dUn opNeg (dCon (.int 1)))) (G (some d1) N2 L3 R d5 d6 d7) S = some (.tup (rowD k (M (laR r))), S) := fun d5 d7 S => dBin_of (x := gridD k M) (S1 := S) rfl (a1 d5 d7 S) (ix_grid lk)
          have hrg : dRng2 (dCons (dBin (opAdd false) (dBin opIx (dVar 4) (dCon (.int 0))) (dCon (.int 1))) (dCons (dCall opLen (dCons (dVar 0) dNil)) dNil)) (G (some d1) N2 L3 R d5 d6 none) S'' = some (fixS (((List.range k).filter fun o => decide (hdR r < o)).map fun o => D.int (o : Nat)), ((List.range k).filter fun o => decide (hdR r < o)).length + 1, S'') := by
            have := rng2_ok (fs := dCons (dBin (opAdd false) (dBin opIx (dVar 4) (dCon (.int 0))) (dCon (.int 1))) (dCons (dCall opLen (dCons (dVar 0) dNil)) dNil)) (a := hdR r + 1) (k := k) (G := G (some d1) N2 L3 R d5 d6 none) (S := S'') (dCons_of (dBin_of (a0 d5 none S'') rfl (by show some (D.int ((hdR r : Int) + 1), S'') = some (D.int ((hdR r + 1 : Nat) : Int), S''); rw [show ((hdR r + 1 : Nat) : Int) = (hdR r : Int) + 1 by omega])) (dOne_of (ln _ S'' rfl))) (by have := hd_lt hr hp.lt; omega) (by omega)
            rw [rng_map2, List.length_map, List.length_range] at this
            rw [rng_tail, List.map_map, List.length_map, List.length_range]
            exact this
          have e5 := lc_pure (c := false) (own := [7]) (g := dgName 7) (t := dCmpT (opIn true) (dVar 7) (dVar 4)) (f := dVar 7) (G := G (some d1) N2 L3 R d5 d6 none) (l := (List.range k).filter fun o => decide (hdR r < o)) (e := fun o => D.int (o : Nat)) hrg rfl fix_src (fun o => !decide (o ∈ r)) (fun o => D.int (o : Nat)) fun o _ => by
            refine ⟨G (some d1) N2 L3 R d5 d6 (some (.int (o : Nat))), rfl, ?_, fun _ => rfl⟩
            have := dCmpT_of (op := opIn true) (x := .int (o : Nat)) (y := rowV r) (S1 := S'') (S2 := S'') (f := dVar 7) (g := dVar 4) (G := G (some d1) N2 L3 R d5 d6 (some (.int (o : Nat)))) (S := S'') rfl rfl (in_ints (neg := true) (z := (o : Int)) (e := natL r))
            rw [if_pos rfl, decide_eq_decide.mpr (nat_mem (a := o) (l := r))] at this
            exact this
          have eav : ((List.range k).filter fun o => decide (hdR r < o)).filter (fun o => !decide (o ∈ r)) = avl k r := by
            unfold avl
            rw [List.filter_filter]
            refine List.filter_congr fun o _ => ?_
            unfold avP
            rw [Bool.and_comm]
          rw [eav] at e5
          have hav : (avl k r).length ≤ k := m_le
          have e5 := e5.trans (okv (by rw [List.length_map]; omega))
          let L5 : Option D := some (.lst ((avl k r).map fun o => D.int (o : Nat)))
          have x3 := dAsg_of (i := 5) e5
          have h7 := dSeqI_l (f := dVar 5) (G := G (some d1) N2 L3 R L5 d6 none) (S := S'') (S1 := S'') (ds := (avl k r).map fun o => D.int (o : Nat)) rfl
          rw [List.length_map] at h7
          have e7 := lc_pure (c := false) (own := [7]) (g := dgName 7) (t := dCmpT (opEq false) (dBin opIx (dBin opIx (dVar 0) (dBin opIx (dVar 4) (dUn opNeg (dCon (.int 1))))) (dVar 7)) (dCon (.str ("bow" : Str)))) (f := dBin (opAdd false) (dVar 4) (dTup (dCons (dVar 7) dNil))) (G := G (some d1) N2 L3 R L5 d6 none) (l := avl k r) (e := fun o => D.int (o : Nat)) h7 rfl fix_src (E (laR r)) (fun o => rowV (r ++ [o])) fun o ho => by
            have hok := List.mem_range.mp (List.mem_filter.mp ho).1
            refine ⟨G (some d1) N2 L3 R L5 d6 (some (.int (o : Nat))), rfl, ?_, fun _ => ?_⟩
            · rw [hE]
              exact dCmpT_of (dBin_of (a2 L5 (some (.int (o : Nat))) S'') (y := .int (o : Nat)) (S2 := S'') rfl (ix_row hok)) rfl eq_str
            · exact dBin_of (x := rowV r) (y := .tup [.int (o : Nat)]) (S1 := S'') (S2 := S'') rfl (dTup_of (ds := [.int (o : Nat)]) (S1 := S'') rfl (by show 1 ≤ 1000000; decide)) (row_app (by omega))
          have hex : (exR E k r).length ≤ k := Nat.le_trans ex_len m_le
          have e7 := e7.trans (okv (by rw [List.length_map]; show (exR E k r).length ≤ _; omega))
          have hfl : (((lvR E k t).take i).flatMap fun r => (exR E k r).map fun o => r ++ [o]).length ≤ 46656 * 6 := by
            have h : ∀ l : List (List Nat), (l.flatMap fun r => (exR E k r).map fun o => r ++ [o]).length ≤ l.length * 6 := fun l => by
              induction l with
              | nil => simp
              | cons a l ih =>
                rw [List.flatMap_cons, List.length_append, List.length_map, List.length_cons, Nat.succ_mul]
                have : (exR E k a).length ≤ k := Nat.le_trans ex_len m_le
                omega
            have h1 := h ((lvR E k t).take i)
            have h2 : ((lvR E k t).take i).length ≤ 46656 := by rw [List.length_take]; omega
            have := Nat.mul_le_mul_right 6 h2
            omega
          have x4 : dExpr (dMeth "list" opExtend (dVar 3) (dCons (dLc false [7] (dSeqI (dVar 5)) (dgName 7) (dCmpT (opEq false) (dBin opIx (dBin opIx (dVar 0) (dBin opIx (dVar 4) (dUn opNeg (dCon (.int 1))))) (dVar 7)) (dCon (.str ("bow" : Str)))) (dBin (opAdd false) (dVar 4) (dTup (dCons (dVar 7) dNil)))) dNil)) (G (some d1) N2 L3 R L5 d6 none) S'' = some (.nx, G (some d1) N2 L3 R L5 d6 none, S''.set C (Cell.lst ((((lvR E k t).take i).flatMap fun r => (exR E k r).map fun o => r ++ [o]).map rowV ++ (exR E k r).map fun o => rowV (r ++ [o])))) :=
            dExpr_of (dMeth_of (x := .loc C) (S1 := S'') rfl (tyD_loc wC) (dOne_of e7) (ext_loc wC (by rw [List.length_map, List.length_map]; show _ + (exR E k r).length ≤ _; omega)))
          refine ⟨G (some d1) N2 L3 R d5 d6 none, S'', G (some d1) N2 L3 R L5 d6 none, _, rfl, (dSeq_nx x3).trans ((dSeq_nx x4).trans rfl), R, L5, rfl, ?_, ?_, pr.put (pr0.len), by rw [List.length_set]; exact hlen⟩
          · rw [List.getElem?_set_self (by omega), List.take_add_one, List.getElem?_eq_getElem hi]
            show _ = some (Cell.lst (((((lvR E k t).take i) ++ [r]).flatMap fun r => (exR E k r).map fun o => r ++ [o]).map rowV))
            rw [List.flatMap_append, List.map_append, List.flatMap_cons, List.flatMap_nil, List.append_nil, List.map_map]
            rfl
          · rcases wL with q | ⟨n, q, q'⟩
            · exact .inl q
            · refine .inr ⟨n, q, ?_⟩
              by_cases hn : n = C
              · exfalso
                have : IsL S' d1 ((lvR E k t).map rowV) := w1
                rcases this with z | ⟨m, z, z'⟩
                · rw [z] at q; cases q
                · rw [z] at q
                  cases q
                  have := (List.getElem?_eq_some_iff.mp z').1
                  rw [hn] at this
                  exact absurd this (Nat.lt_irrefl _)
              · rw [List.getElem?_set_ne (fun z => hn z.symm)]; exact q') (lvR E k t).length 0 (G (some d1) N2 L3 d4 d5 d6 none) S1 (by rw [List.length_map]; omega) ⟨d4, d5, rfl, by
            show (S' ++ [_])[S'.length]? = _
            rw [List.getElem?_append_right (Nat.le_refl _), Nat.sub_self]; rfl, w1.app, pr0.app, by show (S' ++ [_]).length = _; rw [List.length_append]; rfl⟩
      rw [List.length_map, List.take_length] at w4
      have w4 : S4[C]? = some (Cell.lst ((lvR E k (t + 1)).map rowV)) := w4
      have x5 : dAsg (dVar 3) (dgName 1) (G (some d1) N2 L3 d4' d5' d6 none) S4 = some (.nx, G L3 N2 L3 d4' d5' d6 none, S4) := dAsg_of (d := .loc C) rfl
      have hl2 := lv_len6 (E := E) (n := t + 1) hk (by omega)
      have hw6 := dSeqI_c (f := dVar 1) (G := G L3 N2 L3 d4' d5' d6 none) (S := S4) (S1 := S4) (n := C) (ds := (lvR E k (t + 1)).map rowV) rfl w4
      rw [List.length_map] at hw6
      have e6 := lc_pure (c := false) (own := [4]) (g := dgName 4) (t := dCmpT (opEq false) (dBin opIx (dBin opIx (dVar 0) (dBin opIx (dVar 4) (dUn opNeg (dCon (.int 1))))) (dBin opIx (dVar 4) (dCon (.int 0)))) (dCon (.str ("bow" : Str)))) (f := dVar 4) (G := G L3 N2 L3 d4' d5' d6 none) (l := lvR E k (t + 1)) (e := rowV) hw6 rfl (cel_src w4) (fun r => E (laR r) (hdR r)) rowV fun r hr => by
        obtain ⟨hp, _⟩ := (lv_iff (t + 1) r).mp hr
        have hne := hp.ne
        refine ⟨G L3 N2 L3 (some (rowV r)) d5' d6 none, rfl, ?_, fun _ => rfl⟩
        rw [hE]
        exact dCmpT_of (dBin_of (x := .tup (rowD k (M (laR r)))) (y := .int (hdR r : Nat)) (S1 := S4) (S2 := S4) (dBin_of (x := gridD k M) (y := .int (laR r : Nat)) (S1 := S4) (S2 := S4) rfl (dBin_of (x := rowV r) (y := .int (-1)) (S1 := S4) (S2 := S4) rfl rfl (ix_la hne)) (ix_grid (la_lt hne hp.lt))) (dBin_of (x := rowV r) (y := .int 0) (S1 := S4) (S2 := S4) rfl rfl (ix_hd hne)) (ix_row (hd_lt hne hp.lt))) rfl eq_str
      have hcl : (clR E k (t + 1)).length ≤ 46656 := Nat.le_trans (List.length_filter_le _ _) hl2
      have e6 := e6.trans (okv (by rw [List.length_map]; show (clR E k (t + 1)).length ≤ _; omega))
      let nss := sortL ((clR E k (t + 1)).map natL)
      have e6' : opSortedL false [.lst ((clR E k (t + 1)).map rowV)] S4 = some (.lst (nss.map fun ns => D.tup (ns.map D.int)), S4) := by
        show (tupsD ((clR E k (t + 1)).map rowV)).bind (fun nss => okLst false ((sortL nss).map fun ns => D.tup (ns.map D.int)) S4) = _
        rw [tups_rows _ fun r hr => (cl_iff.mp hr).1.ne]
        refine okv ?_
        rw [List.length_map, (sortL_perm _).length_eq, List.length_map]
        omega
      let Z : D := .lst (nss.map fun ns => D.tup (ns.map D.int))
      have x6 : dAsg (dCall (opSortedL false) (dCons (dLc false [4] (dSeqI (dVar 1)) (dgName 4) (dCmpT (opEq false) (dBin opIx (dBin opIx (dVar 0) (dBin opIx (dVar 4) (dUn opNeg (dCon (.int 1))))) (dBin opIx (dVar 4) (dCon (.int 0)))) (dCon (.str ("bow" : Str)))) (dVar 4)) dNil)) (dgName 6) (G L3 N2 L3 d4' d5' d6 none) S4 = some (.nx, G L3 N2 L3 d4' d5' (some Z) none, S4) := dAsg_of (dCall_of (dOne_of e6) e6')
      have ct : dCmpT (opEq true) (dVar 6) (dLst false dNil) (G L3 N2 L3 d4' d5' (some Z) none) S4 = some (!nss.isEmpty, S4) := dCmpT_of (x := Z) (y := .lst []) (S1 := S4) (S2 := S4) rfl rfl neRl
      cases hz : nss with
      | nil =>
        rw [hz] at ct
        have hcn : clR E k (t + 1) = [] := by
          have := (sortL_perm ((clR E k (t + 1)).map natL)).length_eq
          rw [show sortL ((clR E k (t + 1)).map natL) = [] from hz, List.length_map] at this
          exact List.length_eq_zero_iff.mp this.symm
        refine ⟨_, S', .nx, _, S4, rfl, (dSeq_nx x1).trans ((dSeq_nx ((dFor_of hw).trans e4)).trans ((dSeq_nx x5).trans ((dSeq_nx x6).trans ((dSeq_no ct rfl).trans rfl)))), .inl ⟨rfl, .loc C, N2, L3, d4', d5', some Z, rfl, .inr ⟨C, rfl, w4⟩, fun m hm => ?_, pr4.1⟩⟩
        by_cases q : m ≤ t
        · exact no m q
        · rw [show m = t + 1 by omega]; exact hcn
      | cons h tl =>
        rw [hz] at ct
        obtain ⟨r, rfl, hL⟩ := cl_least (E := E) (k := k) (n := t + 1) (by omega) hz fun m hm => no m (by omega)
        have xr : dBin opIx (dVar 6) (dCon (.int 0)) (G L3 N2 L3 d4' d5' (some Z) none) S4 = some (rowV r, S4) := dBin_of (x := Z) (y := .int (0 : Nat)) (S1 := S4) (S2 := S4) rfl rfl (ix_seq' rfl (by rw [List.getElem?_map, hz]; rfl))
        exact ⟨_, S', .rt (rowV r), _, S4, rfl, (dSeq_nx x1).trans ((dSeq_nx ((dFor_of hw).trans e4)).trans ((dSeq_nx x5).trans ((dSeq_nx x6).trans (dSeq_yes ct rfl (dRetS_of xr))))), .inr ⟨_, rfl, by rw [hL]; rfl, pr4.1⟩⟩) (k + 1 - 2) 0 (G (some D0) none none none none none none) S (by rw [rngD_len2]; omega) ⟨D0, none, none, none, none, none, rfl, .inl rfl, no0, .refl⟩
  rw [rngD_len2] at h3 hrr
  rcases h3 with ⟨rfl, d1, d2, d3, d4, d5, d6, rfl, w, no, pr⟩ | ⟨v, rfl, hv, pr⟩
  · have hn := cl_none (E := E) (k := k) (by omega) fun m hm => no m (by omega)
    refine ⟨S3, dFn_rt (G' := G (some d1) d2 d3 d4 d5 d6 none) ((dSeq_nx f1).trans ((dSeq_nx ((dFor_of hrr).trans e3)).trans (dRetS_of ?_))), pr⟩
    rw [hn]; rfl
  · exact ⟨S3, dFn_rt (G' := G3) ((dSeq_nx f1).trans (dSeq_rt (by rw [← hv]; exact (dFor_of hrr).trans e3))), pr⟩
end
end Vw
set_option maxRecDepth 100000
set_option maxHeartbeats 4000000
namespace Vw
open PySem PySem.Spec L2
def d_hu3 : DS :=
    (dSeq (dFor (dSeqI (dVar 1)) (dgTup 2 (dgCons (dgName 2) (dgCons (dgName 3) dgNil)))
    (dSeq (dFor (dRng2 (dCons (dBin (opAdd false) (dVar 3) (dCon (.int 1))) (dCons (dVar 0) dNil))) (dgName 4)
    (dSeq (dIte (dAnd (dCmpT (opIn false) (dTup (dCons (dVar 2) (dCons (dVar 4) dNil))) (dVar 1)) (dCmpT (opIn false) (dTup (dCons (dVar 3) (dCons (dVar 4) dNil))) (dVar 1)))
    (dSeq (dRet (dTup (dCons (dVar 2) (dCons (dVar 3) (dCons (dVar 4) dNil)))))
    dSkip) dSkip)
    dSkip))
    dSkip))
    (dSeq (dRet (dCon .non))
    dSkip))
def fn_hu3 : DF := dDef 5 d_hu3
def d_human : DS :=
    (dSeq (dRet (dTup (dCons (dVar 0) (dCons (dCallF 1 (dCons (dCall opLen (dCons (dVar 0) dNil)) dNil) fn_risingorders) (dCons (dTup dNil) dNil)))))
    dSkip)
def fn_human : DF := dDef 1 d_human
def d_huplain : DS :=
    (dSeq (dIte (dOr (dNot (dTst (dIsi "tuple" (dVar 0)))) (dNot (dTst (dChain (opCmp fun i j => decide (i ≤ j)) (opCmp fun i j => decide (i ≤ j)) (dCon (.int 2)) (dCall opLen (dCons (dVar 0) dNil)) (dCon (.int 6))))))
    (dSeq (dRet (dCon (.bl false)))
    dSkip) dSkip)
    (dSeq (dIte (dCmpT (opIsN true) (dCallF 1 (dCons (dCallF 1 (dCons (dVar 0) dNil) fn_human) dNil) fn_mannerserror) (dCon .non))
    (dSeq (dRet (dCon (.bl false)))
    dSkip) dSkip)
    (dSeq (dRet (dCall opAll (dCons (dLc2 false [1, 2] [2] (dSeqI (dVar 0)) (dgName 1) dYes (dSeqI (dVar 1)) (dgName 2) dYes (dOrV (dBin (opEq false) (dVar 2) (dCon (.str ("-" : Str)))) (dBin (opIn false) (dVar 2) (dCon (.tup [.str ("bow" : Str), .str ("even" : Str), .str ("stand" : Str)]))))) dNil)))
    dSkip)))
def fn_huplain : DF := dDef 3 d_huplain
noncomputable def d_hurd : DS :=
    (dSeq (dIte (dNot (dTst (dCallF 1 (dCons (dVar 0) dNil) fn_huplain)))
    (dSeq dNever
    dSkip) dSkip)
    (dSeq (dAsg (dCallF 1 (dCons (dVar 0) dNil) fn_human) (dgName 1))
    (dSeq (dAsg (dCallF 1 (dCons (dVar 1) dNil) fn_grbow) (dgName 2))
    (dSeq (dIte (dCmpT (opIsN true) (dVar 2) (dCon .non))
    (dSeq (dRet (dTup (dCons (dCon (.str ("bow" : Str))) (dCons (dVar 2) dNil))))
    dSkip) dSkip)
    (dSeq (dAsg (dCall opLen (dCons (dVar 0) dNil)) (dgName 3))
    (dSeq (dFor (dRng1 (dCons (dVar 3) dNil)) (dgName 4)
    (dSeq (dFor (dRng2 (dCons (dBin (opAdd false) (dVar 4) (dCon (.int 1))) (dCons (dVar 3) dNil))) (dgName 5)
    (dSeq (dIte (dAnd (dCmpT (opEq false) (dBin opIx (dBin opIx (dVar 0) (dVar 4)) (dVar 5)) (dCon (.str ("stand" : Str)))) (dCmpT (opEq false) (dBin opIx (dBin opIx (dVar 0) (dVar 5)) (dVar 4)) (dCon (.str ("stand" : Str)))))
    (dSeq (dRet (dTup (dCons (dCon (.str ("stand" : Str))) (dCons (dVar 4) (dCons (dVar 5) dNil)))))
    dSkip) dSkip)
    dSkip))
    dSkip))
    (dSeq (dAsg (dCallF 2 (dCons (dVar 3) (dCons (dCallF 1 (dCons (dVar 1) dNil) fn_evenpairs) dNil)) fn_hu3) (dgName 6))
    (dSeq (dRet (dIf (dCmpT (opIsN false) (dVar 6) (dCon .non)) (dCon .non) (dBin (opAdd false) (dTup (dCons (dCon (.str ("three" : Str))) dNil)) (dVar 6))))
    dSkip))))))))
noncomputable def fn_hurd : DF := dDef 7 d_hurd
def d_hulaw : DS :=
    (dSeq (dPar 1 2 (dCons (dCallF 1 (dCons (dVar 0) dNil) fn_brlaw) (dCons (dLrg false (dCall opLen (dCons (dVar 0) dNil))) dNil)))
    (dSeq (dIte (dCmpT (opIsN true) (dVar 1) (dCon .non))
    (dSeq (dRet (dTup (dCons (dCon (.str ("bow" : Str))) (dCons (dVar 1) dNil))))
    dSkip) dSkip)
    (dSeq (dFor (dSeqI (dVar 2)) (dgName 3)
    (dSeq (dFor (dSeqI (dSlG false (dVar 2) (doSome (dBin (opAdd false) (dVar 3) (dCon (.int 1)))) doNone)) (dgName 4)
    (dSeq (dIte (dAnd (dCmpT (opEq false) (dBin opIx (dBin opIx (dVar 0) (dVar 3)) (dVar 4)) (dCon (.str ("stand" : Str)))) (dCmpT (opEq false) (dBin opIx (dBin opIx (dVar 0) (dVar 4)) (dVar 3)) (dCon (.str ("stand" : Str)))))
    (dSeq (dRet (dTup (dCons (dCon (.str ("stand" : Str))) (dCons (dVar 3) (dCons (dVar 4) dNil)))))
    dSkip) dSkip)
    dSkip))
    dSkip))
    (dSeq (dFor (dSeqI (dVar 2)) (dgName 3)
    (dSeq (dFor (dSeqI (dLc false [4] (dSeqI (dSlG false (dVar 2) (doSome (dBin (opAdd false) (dVar 3) (dCon (.int 1)))) doNone)) (dgName 4) (dCmpT (opEq false) (dBin opIx (dBin opIx (dVar 0) (dVar 3)) (dVar 4)) (dCon (.str ("even" : Str)))) (dVar 4))) (dgName 4)
    (dSeq (dFor (dSeqI (dSlG false (dVar 2) (doSome (dBin (opAdd false) (dVar 4) (dCon (.int 1)))) doNone)) (dgName 5)
    (dSeq (dIte (dAnd (dCmpT (opEq false) (dBin opIx (dBin opIx (dVar 0) (dVar 3)) (dVar 5)) (dCon (.str ("even" : Str)))) (dCmpT (opEq false) (dBin opIx (dBin opIx (dVar 0) (dVar 4)) (dVar 5)) (dCon (.str ("even" : Str)))))
    (dSeq (dRet (dTup (dCons (dCon (.str ("three" : Str))) (dCons (dVar 3) (dCons (dVar 4) (dCons (dVar 5) dNil))))))
    dSkip) dSkip)
    dSkip))
    dSkip))
    dSkip))
    (dSeq (dRet (dCon .non))
    dSkip)))))
def fn_hulaw : DF := dDef 6 d_hulaw
def d_hulike (fn_hulike : DF) : DS :=
    (dSeq (dIte (dTst (dIsi "tuple" (dVar 1)))
    (dSeq (dIte (dOr (dNot (dTst (dIsi "tuple" (dVar 0)))) (dCmpT (opEq true) (dCall opLen (dCons (dVar 0) dNil)) (dCall opLen (dCons (dVar 1) dNil))))
    (dSeq (dRet (dCon (.bl false)))
    dSkip) dSkip)
    (dSeq (dRet (dCall opAll (dCons (dLc false [2] (dRng1 (dCons (dCall opLen (dCons (dVar 1) dNil)) dNil)) (dgName 2) dYes (dCallF 2 (dCons (dBin opIx (dVar 0) (dVar 2)) (dCons (dBin opIx (dVar 1) (dVar 2)) dNil)) fn_hulike)) dNil)))
    dSkip)) dSkip)
    (dSeq (dIte (dCmpT (opIsN false) (dVar 1) (dCon .non))
    (dSeq (dRet (dBin (opIsN false) (dVar 0) (dCon .non)))
    dSkip) dSkip)
    (dSeq (dIte (dTst (dIsi "bool" (dVar 1)))
    (dSeq (dRet (dAndV (dIsi "bool" (dVar 0)) (dBin (opEq false) (dVar 0) (dVar 1))))
    dSkip) dSkip)
    (dSeq (dIte (dTst (dIsi "int" (dVar 1)))
    (dSeq (dRet (dAndV (dIsi "int" (dVar 0)) (dAndV (dNotV (dIsi "bool" (dVar 0))) (dBin (opEq false) (dVar 0) (dVar 1)))))
    dSkip) dSkip)
    (dSeq (dRet (dAndV (dIsi "str" (dVar 0)) (dBin (opEq false) (dVar 0) (dVar 1))))
    dSkip)))))
def fN_hulike : Nat → DF
  | 0 => dDef 3 dsNo
  | n + 1 => dDef 3 (d_hulike (fN_hulike n))
def fn_hulike : DF := fN_hulike 8
def up (k i : Nat) : List Nat := (List.range (k - (i + 1))).map fun t => i + 1 + t
def stP (M : Nat → Nat → Str) (i j : Nat) : Option D := if M i j = "stand" ∧ M j i = "stand" then some (.tup [.str "stand", .int (i : Nat), .int (j : Nat)]) else none
def stF (k : Nat) (M : Nat → Nat → Str) : Option D := (List.range k).findSome? fun i => (up k i).findSome? (stP M i)
def thP (M : Nat → Nat → Str) (g : Nat → Nat → Nat → D) (i j c : Nat) : Option D := if M i c = wEven ∧ M j c = wEven then some (g i j c) else none
def thF (k : Nat) (M : Nat → Nat → Str) (g : Nat → Nat → Nat → D) : Option D := (List.range k).findSome? fun i => ((up k i).filter fun j => decide (M i j = wEven)).findSome? fun j => (up k j).findSome? (thP M g i j)
abbrev g3 (i j c : Nat) : D := .tup [.int (i : Nat), .int (j : Nat), .int (c : Nat)]
abbrev g4 (i j c : Nat) : D := .tup [.str "three", .int (i : Nat), .int (j : Nat), .int (c : Nat)]
def hurD (k : Nat) (M : Nat → Nat → Str) : D :=
  match leastR (edgM M ["bow"]) k with
  | some r => .tup [.str "bow", rowV r]
  | none => match stF k M with
    | some d => d
    | none => match thF k M g4 with
      | some d => d
      | none => .non
section
variable {k : Nat} {M : Nat → Nat → Str} {S : Sto}
theorem up_mem {i j : Nat} : j ∈ up k i ↔ i < j ∧ j < k := by
  unfold up
  rw [List.mem_map]
  constructor
  · rintro ⟨t, ht, rfl⟩
    have := List.mem_range.mp ht
    omega
  · intro h
    exact ⟨j - (i + 1), List.mem_range.mpr (by omega), by omega⟩
theorem up_len {i : Nat} : (up k i).length = k - (i + 1) := by unfold up; rw [List.length_map, List.length_range]
theorem up_drop {i : Nat} (hi : i < k) : (List.range k).drop (i + 1) = up k i := by
  refine List.ext_getElem (by rw [List.length_drop, List.length_range, up_len]) fun n h1 h2 => ?_
  simp [up]
theorem fs_shape {g : Nat → Nat → Nat → D} {d : D} (h : thF k M g = some d) : ∃ i j c, d = g i j c := by
  obtain ⟨i, _, h⟩ := List.exists_of_findSome?_eq_some h
  obtain ⟨j, _, h⟩ := List.exists_of_findSome?_eq_some h
  obtain ⟨c, _, h⟩ := List.exists_of_findSome?_eq_some h
  unfold thP at h
  split at h
  · exact ⟨i, j, c, (Option.some.inj h).symm⟩
  · cases h
theorem fs_congr {α β : Type} {f g : α → Option β} : ∀ {l : List α}, (∀ x ∈ l, f x = g x) → l.findSome? f = l.findSome? g
  | [], _ => rfl
  | a :: l, h => by rw [List.findSome?_cons, List.findSome?_cons, h a List.mem_cons_self, fs_congr fun x hx => h x (List.mem_cons_of_mem _ hx)]
theorem fs_map {α β γ : Type} {f : α → Option β} {h : β → γ} : ∀ {l : List α}, (l.findSome? f).map h = l.findSome? fun x => (f x).map h
  | [] => rfl
  | a :: l => by
    rw [List.findSome?_cons, List.findSome?_cons]
    cases f a with
    | none => exact fs_map
    | some b => rfl
theorem fs_flat {α β γ : Type} {f : α → List β} {h : β → Option γ} : ∀ {l : List α}, (l.flatMap f).findSome? h = l.findSome? fun x => (f x).findSome? h
  | [] => rfl
  | a :: l => by
    rw [List.flatMap_cons, List.findSome?_append, List.findSome?_cons]
    cases (f a).findSome? h with
    | none => exact fs_flat
    | some b => rfl
theorem th_map {g : Nat → Nat → Nat → D} {h : D → D} : (thF k M g).map h = thF k M fun i j c => h (g i j c) := by
  unfold thF
  rw [fs_map]
  refine fs_congr fun i _ => ?_
  rw [fs_map]
  refine fs_congr fun j _ => ?_
  rw [fs_map]
  refine fs_congr fun c _ => ?_
  unfold thP
  split <;> rfl
theorem th_ev {g : Nat → Nat → Nat → D} : thF k M g = (evUp k M).findSome? fun p => (up k p.2).findSome? (thP M g p.1 p.2) := by
  unfold evUp
  rw [fs_flat]
  refine fs_congr fun i _ => ?_
  unfold evRow up
  rw [List.filter_map, List.findSome?_map, List.findSome?_map]
  rfl
theorem in_pairs {l : List (Nat × Nat)} {x y : Nat} : opIn false (.tup [.int (x : Nat), .int (y : Nat)]) (.tup (l.map pairD)) S = some (.bl (decide ((x, y) ∈ l)), S) := by
  let pp : Nat × Nat → PyData := fun p => intsP [(p.1 : Int), (p.2 : Int)]
  have hany : (l.map pp).any (fun q => PyData.eqv q (pp (x, y))) = decide ((x, y) ∈ l) := by
    induction l with
    | nil => rfl
    | cons t l ih =>
      rw [List.map_cons, List.any_cons, ih]
      have e : PyData.eqv (pp t) (pp (x, y)) = decide ((x, y) = t) := by
        show ((((t.1 : Int) == (x : Int)) && (((t.2 : Int) == (y : Int)) && true))) = _
        rw [Bool.and_true]
        obtain ⟨a, b⟩ := t
        by_cases h1 : x = a
        · by_cases h2 : y = b
          · subst h1; subst h2; simp
          · have : ¬ ((b : Nat) : Int) = (y : Int) := by omega
            simp [h1, h2, this]
        · have : ¬ ((a : Nat) : Int) = (x : Int) := by omega
          simp [h1, this]
      rw [e]
      by_cases h1 : (x, y) = t
      · subst h1; simp
      · have : decide ((x, y) ∈ t :: l) = decide ((x, y) ∈ l) := decide_eq_decide.mpr ⟨fun h => (List.mem_cons.mp h).elim (fun q => absurd q h1) id, fun h => List.mem_cons_of_mem _ h⟩
        rw [this, decide_eq_false h1, Bool.false_or]
  have hdep : ∀ l : List (Nat × Nat), PyData.depthAll (l.map pp) ≤ 1 := fun l => by
    induction l with
    | nil => exact Nat.zero_le _
    | cons a l ih =>
      show max (pp a).depth (PyData.depthAll (l.map pp)) ≤ 1
      have : (pp a).depth = 1 := rfl
      omega
  have hcan : ∀ l : List (Nat × Nat), PyData.canLayAll0 (l.map pp) = true := fun l => by
    induction l with
    | nil => rfl
    | cons a l ih =>
      show (PyData.canLay0 (pp a) && PyData.canLayAll0 (l.map pp)) = true
      rw [ih]; rfl
  have hs1 : SeqAt.shaped (pp (x, y)) = true := rfl
  have hs2 : SeqAt.shaped (.tuple (l.map pp)) = true := by
    unfold SeqAt.shaped
    have h1 := hdep l
    have h2 : (PyData.tuple (l.map pp)).depth = PyData.depthAll (l.map pp) + 1 := rfl
    rw [show (PyData.tuple (l.map pp)).canLay0 = true from hcan l, decide_eq_true (by omega)]; rfl
  have e : inP S (.tup [.int (x : Nat), .int (y : Nat)]) (.tup (l.map pairD)) = some (decide ((x, y) ∈ l)) := by
    have e1 : pyOf S (.tup [.int (x : Nat), .int (y : Nat)]) = some (pp (x, y)) := intsP_of (xs := [(x : Int), (y : Int)])
    have e2 : pyOf S (.tup (l.map pairD)) = some (.tuple (l.map pp)) := by
      show (toPs _ (l.map pairD)).map _ = _
      rw [toPs_map (f := pairD) (g := pp) fun t _ => intsP_of (xs := [(t.1 : Int), (t.2 : Int)])]; rfl
    unfold inP
    rw [e1, e2]
    simp only [Option.bind_some, hs1, hs2, Bool.and_self, if_true, hany]
  unfold opIn inD
  show ((inP S (.tup [.int (x : Nat), .int (y : Nat)]) (.tup (l.map pairD))).map _) = _
  rw [e]; rfl
theorem rng2_up {fs : DA} {i : Nat} {G : Gam} (h : fs G S = some ([.int ((i + 1 : Nat) : Int), .int (k : Nat)], S)) (hi : i ≤ 1000) (hk : k ≤ 1000) : dRng2 fs G S = some (fixS ((up k i).map fun j => D.int (j : Nat)), (up k i).length + 1, S) := by
  have := rng2_ok (a := i + 1) (k := k) h (by omega) (by omega)
  rw [rng_map2, List.length_map, List.length_range] at this
  rw [up_len]
  unfold up
  rw [List.map_map]
  exact this
abbrev h3B : DS := (dSeq (dIte (dAnd (dCmpT (opIn false) (dTup (dCons (dVar 2) (dCons (dVar 4) dNil))) (dVar 1)) (dCmpT (opIn false) (dTup (dCons (dVar 3) (dCons (dVar 4) dNil))) (dVar 1)))
    (dSeq (dRet (dTup (dCons (dVar 2) (dCons (dVar 3) (dCons (dVar 4) dNil)))))
    dSkip) dSkip)
    dSkip)
def huO : Option D → D
  | none => .non
  | some d => d
theorem hu3_ok (hk : k ≤ 10) : fn_hu3 [.int (k : Nat), .tup ((evUp k M).map pairD)] S = some (huO (thF k M g3), S) := by
  let P : D := .tup ((evUp k M).map pairD)
  let G (d2 d3 d4 : Option D) : Gam := [some (.int (k : Nat)), some P, d2, d3, d4]
  have hw := dSeqI_t (f := dVar 1) (G := G none none none) (S := S) (S1 := S) (ds := (evUp k M).map pairD) rfl
  rw [List.length_map] at hw
  obtain ⟨G', e, d2, d3, d4, rfl⟩ := for_find (S := S) (g := dgTup 2 (dgCons (dgName 2) (dgCons (dgName 3) dgNil))) (b := (dSeq (dFor (dRng2 (dCons (dBin (opAdd false) (dVar 3) (dCon (.int 1))) (dCons (dVar 0) dNil))) (dgName 4)
    h3B)
    dSkip)) (l := evUp k M) (e := pairD) fix_src (fun G' => ∃ d2 d3 d4, G' = G d2 d3 d4) (fun p => (up k p.2).findSome? (thP M g3 p.1 p.2))
    (fun p hp G' hR => by
      obtain ⟨d2, d3, d4, rfl⟩ := hR
      obtain ⟨i, j⟩ := p
      obtain ⟨h1, h2, h3⟩ := evUp_mem.mp hp
      have h1 : i < j := h1
      have h2 : j < k := h2
      let I : Option D := some (.int (i : Nat))
      let J : Option D := some (.int (j : Nat))
      have hr := rng2_up (k := k) (i := j) (fs := dCons (dBin (opAdd false) (dVar 3) (dCon (.int 1))) (dCons (dVar 0) dNil)) (G := G I J d4) (S := S) rfl (by omega) (by omega)
      obtain ⟨G', e, d4', rfl⟩ := for_find (S := S) (g := dgName 4) (b := h3B) (l := up k j) (e := fun c => D.int (c : Nat)) fix_src (fun G' => ∃ d4, G' = G I J d4) (thP M g3 i j)
        (fun c hc G' hR => by
          obtain ⟨d4, rfl⟩ := hR
          obtain ⟨c1, c2⟩ := up_mem.mp hc
          let C : Option D := some (.int (c : Nat))
          have t1 : dCmpT (opIn false) (dTup (dCons (dVar 2) (dCons (dVar 4) dNil))) (dVar 1) (G I J C) S = some (decide (M i c = wEven), S) := by
            have := dCmpT_of (op := opIn false) (f := dTup (dCons (dVar 2) (dCons (dVar 4) dNil))) (g := dVar 1) (G := G I J C) (S := S) (x := .tup [.int (i : Nat), .int (c : Nat)]) (y := P) (S1 := S) (S2 := S) (dTup_of (ds := [.int (i : Nat), .int (c : Nat)]) rfl (by show 2 ≤ 1000000; decide)) rfl in_pairs
            rw [this, decide_eq_decide.mpr (show (i, c) ∈ evUp k M ↔ M i c = wEven from ⟨fun h => (evUp_mem.mp h).2.2, fun h => evUp_mem.mpr ⟨by show i < c; omega, c2, h⟩⟩)]
          have t2 : dCmpT (opIn false) (dTup (dCons (dVar 3) (dCons (dVar 4) dNil))) (dVar 1) (G I J C) S = some (decide (M j c = wEven), S) := by
            have := dCmpT_of (op := opIn false) (f := dTup (dCons (dVar 3) (dCons (dVar 4) dNil))) (g := dVar 1) (G := G I J C) (S := S) (x := .tup [.int (j : Nat), .int (c : Nat)]) (y := P) (S1 := S) (S2 := S) (dTup_of (ds := [.int (j : Nat), .int (c : Nat)]) rfl (by show 2 ≤ 1000000; decide)) rfl in_pairs
            rw [this, decide_eq_decide.mpr (show (j, c) ∈ evUp k M ↔ M j c = wEven from ⟨fun h => (evUp_mem.mp h).2.2, fun h => evUp_mem.mpr ⟨c1, c2, h⟩⟩)]
          have t := dAnd_of t1 t2
          refine ⟨G I J C, G I J C, rfl, ?_, C, rfl⟩
          unfold thP
          by_cases hc : M i c = wEven ∧ M j c = wEven
          · rw [if_pos hc]
            rw [decide_eq_true hc.1, decide_eq_true hc.2] at t
            exact dSeq_yes t rfl (dRetS_of (dTup_of (ds := [.int (i : Nat), .int (j : Nat), .int (c : Nat)]) rfl (by show 3 ≤ 1000000; decide)))
          · rw [if_neg hc]
            refine (dSeq_no t ?_).trans rfl
            by_cases q : M i c = wEven
            · rw [decide_eq_true q, decide_eq_false (fun z => hc ⟨q, z⟩)]; rfl
            · rw [decide_eq_false q]; rfl) (up k j).length 0 (G I J d4) (by omega) ⟨d4, rfl⟩
      rw [List.drop_zero] at e
      have e := (dFor_of (b := h3B) (g := dgName 4) hr).trans e
      refine ⟨G I J d4, G I J d4', rfl, ?_, I, J, d4', rfl⟩
      show dSeq _ dSkip _ S = _
      cases hq : (up k j).findSome? (thP M g3 i j) with
      | none => rw [hq] at e; exact (dSeq_nx e).trans rfl
      | some r => rw [hq] at e; exact dSeq_rt e) (evUp k M).length 0 (G none none none) (by omega) ⟨none, none, none, rfl⟩
  rw [List.drop_zero, ← th_ev] at e
  have e := (dFor_of (g := dgTup 2 (dgCons (dgName 2) (dgCons (dgName 3) dgNil))) hw).trans e
  cases hq : thF k M g3 with
  | none => rw [hq] at e; exact dFn_rt (G' := G d2 d3 d4) ((dSeq_nx e).trans (dRetS_of rfl))
  | some r => rw [hq] at e; exact dFn_rt (G' := G d2 d3 d4) (dSeq_rt e)
end
end Vw
set_option maxRecDepth 100000
set_option maxHeartbeats 4000000
namespace Vw
open PySem PySem.Spec L2
noncomputable section
section
variable {k : Nat} {M : Nat → Nat → Str} {S : Sto}
theorem ps5_facts : ∀ p ∈ ps5, (p.1 = wEven ↔ p.2 = wEven) ∧ p.1 ∈ (["bow", "even", "stand"] : List Str) := by decide
theorem PlainM.lot (p : PlainM k M) {a b : Nat} (ha : a < k) (hb : b < k) (hne : a ≠ b) : M a b ∈ (["bow", "even", "stand"] : List Str) := (ps5_facts _ (p.pair a b ha hb hne)).2
theorem PlainM.sym (p : PlainM k M) {a b : Nat} (ha : a < k) (hb : b < k) : M a b = wEven ↔ M b a = wEven := by
  by_cases h : a = b
  · subst h; exact Iff.rfl
  · exact (ps5_facts _ (p.pair a b ha hb h)).1
theorem PlainM.inSix (p : PlainM k M) {a b : Nat} (ha : a < k) (hb : b < k) : M a b ∈ Vw.six := by
  by_cases h : a = b
  · subst h; rw [p.dia a ha]; decide
  · have := p.lot ha hb h
    have q : ∀ w ∈ (["bow", "even", "stand"] : List Str), w ∈ Vw.six := by decide
    exact q _ this
theorem PlainM.mn (p : PlainM k M) (h2 : 2 ≤ k) (h6 : k ≤ 6) : Mn k M (riseW k) [] := by
  have l5 : ∀ w ∈ (["bow", "even", "stand"] : List Str), w ∈ words5 := by decide
  refine ⟨⟨by omega, ⟨by unfold riseW; simp, fun i w hw => ?_⟩, fun i j hi hj h => (p.sym hi hj).mp h, fun i j hi hj => p.inSix hi hj, (fun e h => by cases h), by decide⟩, h2, h6, p.dia, fun i j hi hj hne => l5 _ (p.lot hi hj fun q => hne q.symm), fun i j hi hj => p.sym hi hj⟩
  unfold riseW at hw
  rw [List.getElem?_map] at hw
  obtain ⟨j, hj, rfl⟩ := Option.map_eq_some_iff.mp hw
  have hi := (List.getElem?_eq_some_iff.mp hj).1
  rw [List.length_range] at hi
  rw [List.getElem?_range hi] at hj
  cases hj
  exact List.Perm.refl _
theorem human_ok (hk : k ≤ 10) : fn_human [gridD k M] S = some (lockD k M (riseW k) [], S) := by
  let G : Gam := [some (gridD k M)]
  refine dFn_rt (G' := G) (dRetS_of ?_)
  exact dTup_of (ds := [gridD k M, waysD (riseW k), .tup []]) (S1 := S) (dCons_of rfl (dCons_of (dCallF_of (ds := [.int (k : Nat)]) (S1 := S) (dOne_of (dCall_of (dOne_of (d := gridD k M) (S1 := S) rfl) len_grid)) rfl (rising_ok hk)) (dOne_of (dTup_of (ds := []) rfl (by show 0 ≤ 1000000; decide))))) (by show 3 ≤ 1000000; decide)
theorem all_bl {l : List D} (h : ∀ d ∈ l, d = .bl true) : opAll [.lst l] S = some (.bl true, S) := by
  rw [show l = List.replicate l.length (.bl true) from List.eq_replicate_iff.mpr ⟨rfl, h⟩]
  exact all_true
theorem huplain_ok (p : PlainM k M) (h2 : 2 ≤ k) (h6 : k ≤ 6) : fn_huplain [gridD k M] S = some (.bl true, S) := by
  let G : Gam := [some (gridD k M), none, none]
  have ln : dCall opLen (dCons (dVar 0) dNil) G S = some (.int (k : Nat), S) := dCall_of (dOne_of (d := gridD k M) (S1 := S) rfl) len_grid
  have c1 : dOr (dNot (dTst (dIsi "tuple" (dVar 0)))) (dNot (dTst (dChain (opCmp fun i j => decide (i ≤ j)) (opCmp fun i j => decide (i ≤ j)) (dCon (.int 2)) (dCall opLen (dCons (dVar 0) dNil)) (dCon (.int 6))))) G S = some (false, S) := by
    refine dOr_ff (dNot_of (b := true) (dTst_of (isi_tup (ds := (List.range k).map fun r => D.tup (rowD k (M r))) rfl))) (dNot_of (b := true) (dTst_of ?_))
    exact dChain_of (x := .int 2) (y := .int (k : Nat)) (z := .int 6) rfl ln (cmp_true (decide_eq_true (by omega))) rfl (cmp_true (decide_eq_true (by omega)))
  have c2 : dCmpT (opIsN true) (dCallF 1 (dCons (dCallF 1 (dCons (dVar 0) dNil) fn_human) dNil) fn_mannerserror) (dCon .non) G S = some (false, S) :=
    dCmpT_of (dCallF_of (ds := [lockD k M (riseW k) []]) (S1 := S) (dOne_of (dCallF_of (ds := [gridD k M]) (S1 := S) rfl rfl (human_ok (by omega)))) rfl (mannerserror_ok (p.mn h2 h6))) rfl rfl
  have hw : dSeqI (dVar 0) G S = some (fixS ((List.range k).map fun r => D.tup (rowD k (M r))), (List.range k).length + 1, S) := by
    have := dSeqI_t (f := dVar 0) (G := G) (S := S) (S1 := S) (ds := (List.range k).map fun r => D.tup (rowD k (M r))) rfl
    rwa [List.length_map] at this
  have e1 := lc2_pure (S := S) (c := false) (own := [1, 2]) (own1 := [2]) (w := dSeqI (dVar 0)) (src := fixS ((List.range k).map fun r => D.tup (rowD k (M r)))) (g := dgName 1) (g1 := dgName 2) (w1 := dSeqI (dVar 1)) (f := dOrV (dBin (opEq false) (dVar 2) (dCon (.str ("-" : Str)))) (dBin (opIn false) (dVar 2) (dCon (.tup [.str ("bow" : Str), .str ("even" : Str), .str ("stand" : Str)])))) (G := G) (l := List.range k) (e := fun r => D.tup (rowD k (M r))) (l1 := fun r => rowS k (M r)) (e1 := D.str) (fun _ _ => .bl true) hw fix_src
    (fun r hr => by
      have hr := List.mem_range.mp hr
      refine ⟨[some (gridD k M), some (.tup (rowD k (M r))), none], fixS ((rowS k (M r)).map D.str), rfl, ?_, fun i => fix_src i, fun w hw => ⟨[some (gridD k M), some (.tup (rowD k (M r))), some (.str w)], rfl, ?_⟩⟩
      · rw [rowS_map]
        have := dSeqI_t (f := dVar 1) (G := [some (gridD k M), some (.tup (rowD k (M r))), none]) (S := S) (S1 := S) (ds := rowD k (M r)) rfl
        rw [rowD_len] at this
        rw [show (rowS k (M r)).length = k from by unfold rowS; rw [List.length_map, List.length_range]]
        exact this
      · unfold rowS at hw
        obtain ⟨c, hc, rfl⟩ := List.mem_map.mp hw
        have hc := List.mem_range.mp hc
        have c3 : dBin (opEq false) (dVar 2) (dCon (.str ("-" : Str))) [some (gridD k M), some (.tup (rowD k (M r))), some (.str (M r c))] S = some (.bl (decide (M r c = "-")), S) := dBin_of (x := .str (M r c)) (y := .str "-") (S1 := S) (S2 := S) rfl rfl eq_str
        by_cases h : M r c = "-"
        · rw [decide_eq_true h] at c3
          exact dOrV_t c3
        · rw [decide_eq_false h] at c3
          refine (dOrV_f c3).trans ?_
          have hm := p.lot hr hc fun q => h (by rw [← q]; exact p.dia r hr)
          have := dBin_of (op := opIn false) (f := dVar 2) (g := dCon (.tup [.str ("bow" : Str), .str ("even" : Str), .str ("stand" : Str)])) (G := [some (gridD k M), some (.tup (rowD k (M r))), some (.str (M r c))]) (S := S) (x := .str (M r c)) (y := .tup ((["bow", "even", "stand"] : List Str).map D.str)) (S1 := S) (S2 := S) rfl rfl in_strs
          rw [decide_eq_true hm] at this
          exact this)
  have hl : ∀ l : List Nat, (l.flatMap fun r => (rowS k (M r)).map fun _ => D.bl true).length ≤ l.length * 10 := fun l => flatMap_le fun r _ => by
    rw [List.length_map]; unfold rowS; rw [List.length_map, List.length_range]; omega
  have hl := hl (List.range k)
  rw [List.length_range] at hl
  rw [okv (by omega)] at e1
  exact dFn_rt (G' := G) ((dSeq_no c1 rfl).trans ((dSeq_no c2 rfl).trans (dRetS_of (dCall_of (dOne_of e1) (all_bl fun d hd => by
    obtain ⟨r, _, hd⟩ := List.mem_flatMap.mp hd
    obtain ⟨w, _, rfl⟩ := List.mem_map.mp hd
    rfl)))))
abbrev hsB : DS := (dSeq (dIte (dAnd (dCmpT (opEq false) (dBin opIx (dBin opIx (dVar 0) (dVar 4)) (dVar 5)) (dCon (.str ("stand" : Str)))) (dCmpT (opEq false) (dBin opIx (dBin opIx (dVar 0) (dVar 5)) (dVar 4)) (dCon (.str ("stand" : Str)))))
    (dSeq (dRet (dTup (dCons (dCon (.str ("stand" : Str))) (dCons (dVar 4) (dCons (dVar 5) dNil)))))
    dSkip) dSkip)
    dSkip)
theorem wc_ix {G : Gam} {x y a b : Nat} {w : Str} (h0 : ∀ S, dVar 0 G S = some (gridD k M, S)) (hx : ∀ S, dVar x G S = some (.int (a : Nat), S)) (hy : ∀ S, dVar y G S = some (.int (b : Nat), S)) (ha : a < k) (hb : b < k) :
    dCmpT (opEq false) (dBin opIx (dBin opIx (dVar 0) (dVar x)) (dVar y)) (dCon (.str w)) G S = some (decide (M a b = w), S) :=
  dCmpT_of (dBin_of (x := .tup (rowD k (M a))) (y := .int (b : Nat)) (S1 := S) (S2 := S) (dBin_of (x := gridD k M) (y := .int (a : Nat)) (S1 := S) (S2 := S) (h0 S) (hx S) (ix_grid ha)) (hy S) (ix_row hb)) rfl eq_str
theorem and_pair {a b : Prop} [Decidable a] [Decidable b] : (decide a && decide b) = decide (a ∧ b) := by
  by_cases h1 : a <;> by_cases h2 : b <;> simp [h1, h2]
def add3 : D → D
  | .tup ds => .tup (.str "three" :: ds)
  | d => d
theorem hurd_ok (p : PlainM k M) (h2 : 2 ≤ k) (h6 : k ≤ 6) : ∃ S', fn_hurd [gridD k M] S = some (hurD k M, S') ∧ Pre S S' := by
  let G (d1 d2 d3 d4 d5 d6 : Option D) : Gam := [some (gridD k M), d1, d2, d3, d4, d5, d6]
  have c1 : dNot (dTst (dCallF 1 (dCons (dVar 0) dNil) fn_huplain)) (G none none none none none none) S = some (false, S) := dNot_of (b := true) (dTst_of (dCallF_of (ds := [gridD k M]) (S1 := S) rfl rfl (huplain_ok p h2 h6)))
  let lk := lockD k M (riseW k) []
  let L : Option D := some lk
  have f1 : dAsg (dCallF 1 (dCons (dVar 0) dNil) fn_human) (dgName 1) (G none none none none none none) S = some (.nx, G L none none none none none, S) := dAsg_of (dCallF_of (ds := [gridD k M]) (S1 := S) rfl rfl (human_ok (by omega)))
  obtain ⟨S1, e1, p1⟩ := grbow_ok (S := S) (k := k) (M := M) (ws := riseW k) (es := []) (by omega)
  let B : D := optR (leastR (edgM M ["bow"]) k)
  have f2 : dAsg (dCallF 1 (dCons (dVar 1) dNil) fn_grbow) (dgName 2) (G L none none none none none) S = some (.nx, G L (some B) none none none none, S1) := dAsg_of (dCallF_of (ds := [lk]) (S1 := S) rfl rfl e1)
  unfold hurD
  cases hL : leastR (edgM M ["bow"]) k with
  | some r =>
    have hB : B = rowV r := by show optR _ = _; rw [hL]; rfl
    have c3 : dCmpT (opIsN true) (dVar 2) (dCon .non) (G L (some B) none none none none) S1 = some (true, S1) := by rw [hB]; exact dCmpT_of (x := rowV r) (y := .non) (S1 := S1) (S2 := S1) rfl rfl rfl
    refine ⟨S1, dFn_rt (G' := G L (some B) none none none none) ((dSeq_no c1 rfl).trans ((dSeq_nx f1).trans ((dSeq_nx f2).trans (dSeq_yes c3 rfl (dRetS_of ?_))))), p1⟩
    rw [hB]
    exact dTup_of (ds := [.str "bow", rowV r]) (S1 := S1) rfl (by show 2 ≤ 1000000; decide)
  | none =>
    have hB : B = .non := by show optR _ = _; rw [hL]; rfl
    have c3 : dCmpT (opIsN true) (dVar 2) (dCon .non) (G L (some B) none none none none) S1 = some (false, S1) := by rw [hB]; exact dCmpT_of (x := .non) (y := .non) (S1 := S1) (S2 := S1) rfl rfl rfl
    let K : Option D := some (.int (k : Nat))
    have f3 : dAsg (dCall opLen (dCons (dVar 0) dNil)) (dgName 3) (G L (some B) none none none none) S1 = some (.nx, G L (some B) K none none none, S1) := dAsg_of (dCall_of (dOne_of (d := gridD k M) (S1 := S1) rfl) len_grid)
    have hr := rng1_ok (fs := dCons (dVar 3) dNil) (k := k) (G := G L (some B) K none none none) (S := S1) rfl (by omega)
    rw [rng_map] at hr
    obtain ⟨G', e, d4, d5, rfl⟩ := for_find (S := S1) (g := dgName 4) (b := (dSeq (dFor (dRng2 (dCons (dBin (opAdd false) (dVar 4) (dCon (.int 1))) (dCons (dVar 3) dNil))) (dgName 5)
      hsB)
      dSkip)) (l := List.range k) (e := fun i => D.int (i : Nat)) fix_src (fun G' => ∃ d4 d5, G' = G L (some B) K d4 d5 none) (fun i => (up k i).findSome? (stP M i))
      (fun i hi G' hR => by
        obtain ⟨d4, d5, rfl⟩ := hR
        have hi := List.mem_range.mp hi
        let I : Option D := some (.int (i : Nat))
        have hr := rng2_up (k := k) (i := i) (fs := dCons (dBin (opAdd false) (dVar 4) (dCon (.int 1))) (dCons (dVar 3) dNil)) (G := G L (some B) K I d5 none) (S := S1) rfl (by omega) (by omega)
        obtain ⟨G', e, d5', rfl⟩ := for_find (S := S1) (g := dgName 5) (b := hsB) (l := up k i) (e := fun c => D.int (c : Nat)) fix_src (fun G' => ∃ d5, G' = G L (some B) K I d5 none) (stP M i)
          (fun j hj G' hR => by
            obtain ⟨d5, rfl⟩ := hR
            obtain ⟨j1, j2⟩ := up_mem.mp hj
            let J : Option D := some (.int (j : Nat))
            have t := dAnd_of (wc_ix (S := S1) (k := k) (M := M) (w := "stand") (G := G L (some B) K I J none) (x := 4) (y := 5) (a := i) (b := j) (fun _ => rfl) (fun _ => rfl) (fun _ => rfl) hi j2) (wc_ix (S := S1) (k := k) (M := M) (w := "stand") (G := G L (some B) K I J none) (x := 5) (y := 4) (a := j) (b := i) (fun _ => rfl) (fun _ => rfl) (fun _ => rfl) j2 hi)
            rw [and_pair] at t
            refine ⟨G L (some B) K I J none, G L (some B) K I J none, rfl, ?_, J, rfl⟩
            unfold stP
            by_cases hc : M i j = "stand" ∧ M j i = "stand"
            · rw [if_pos hc]
              exact dSeq_yes t (decide_eq_true hc) (dRetS_of (dTup_of (ds := [.str "stand", .int (i : Nat), .int (j : Nat)]) rfl (by show 3 ≤ 1000000; decide)))
            · rw [if_neg hc]
              exact (dSeq_no t (decide_eq_false hc)).trans rfl) (up k i).length 0 (G L (some B) K I d5 none) (by omega) ⟨d5, rfl⟩
        rw [List.drop_zero] at e
        have e := (dFor_of (b := hsB) (g := dgName 5) hr).trans e
        refine ⟨G L (some B) K I d5 none, G L (some B) K I d5' none, rfl, ?_, I, d5', rfl⟩
        show dSeq _ dSkip _ S1 = _
        cases hq : (up k i).findSome? (stP M i) with
        | none => rw [hq] at e; exact (dSeq_nx e).trans rfl
        | some r => rw [hq] at e; exact dSeq_rt e) (List.range k).length 0 (G L (some B) K none none none) (by omega) ⟨none, none, rfl⟩
    rw [List.drop_zero, List.length_range] at e
    have e := (dFor_of (g := dgName 4) hr).trans e
    have start : ∀ {fl G' S'} {h : DS}, h (G L (some B) K none none none) S1 = some (fl, G', S') → dSeq (dIte (dNot (dTst (dCallF 1 (dCons (dVar 0) dNil) fn_huplain))) (dSeq dNever dSkip) dSkip) (dSeq (dAsg (dCallF 1 (dCons (dVar 0) dNil) fn_human) (dgName 1)) (dSeq (dAsg (dCallF 1 (dCons (dVar 1) dNil) fn_grbow) (dgName 2)) (dSeq (dIte (dCmpT (opIsN true) (dVar 2) (dCon .non)) (dSeq (dRet (dTup (dCons (dCon (.str ("bow" : Str))) (dCons (dVar 2) dNil)))) dSkip) dSkip) (dSeq (dAsg (dCall opLen (dCons (dVar 0) dNil)) (dgName 3)) h)))) (G none none none none none none) S = some (fl, G', S') := fun h =>
      (dSeq_no c1 rfl).trans ((dSeq_nx f1).trans ((dSeq_nx f2).trans ((dSeq_no c3 rfl).trans ((dSeq_nx f3).trans h))))
    have hst : stF k M = (List.range k).findSome? fun i => (up k i).findSome? (stP M i) := rfl
    cases hS : stF k M with
    | some d =>
      rw [hst] at hS
      rw [hS] at e
      exact ⟨S1, dFn_rt (G' := G L (some B) K d4 d5 none) (start (dSeq_rt e)), p1⟩
    | none =>
      rw [hst] at hS
      rw [hS] at e
      let T : D := huO (thF k M g3)
      have f6 : dAsg (dCallF 2 (dCons (dVar 3) (dCons (dCallF 1 (dCons (dVar 1) dNil) fn_evenpairs) dNil)) fn_hu3) (dgName 6) (G L (some B) K d4 d5 none) S1 = some (.nx, G L (some B) K d4 d5 (some T), S1) :=
        dAsg_of (dCallF_of (ds := [.int (k : Nat), .tup ((evUp k M).map pairD)]) (S1 := S1) (dCons_of rfl (dOne_of (dCallF_of (ds := [lk]) (S1 := S1) rfl rfl (evenpairs_ok (by omega))))) rfl (hu3_ok (by omega)))
      have h4 : thF k M g4 = (thF k M g3).map add3 := (th_map (g := g3) (h := add3)).symm
      refine ⟨S1, dFn_rt (G' := G L (some B) K d4 d5 (some T)) (start ((dSeq_nx e).trans ((dSeq_nx f6).trans (dRetS_of ?_)))), p1⟩
      cases hT : thF k M g3 with
      | none =>
        rw [hT] at h4
        rw [h4]
        have hTn : T = .non := by show huO _ = _; rw [hT]; rfl
        refine (dIf_t ?_).trans rfl
        rw [hTn]
        exact dCmpT_of (x := .non) (y := .non) (S1 := S1) (S2 := S1) rfl rfl rfl
      | some d =>
        obtain ⟨i, j, c, rfl⟩ := fs_shape hT
        rw [hT] at h4
        rw [h4]
        have hTn : T = g3 i j c := by show huO _ = _; rw [hT]; rfl
        rw [hTn]
        refine (dIf_f (dCmpT_of (x := g3 i j c) (y := .non) (S1 := S1) (S2 := S1) rfl rfl rfl)).trans ?_
        exact dBin_of (x := .tup [.str "three"]) (y := g3 i j c) (S1 := S1) (S2 := S1) (dTup_of (ds := [.str "three"]) rfl (by show 1 ≤ 1000000; decide)) rfl (okt (by show 4 ≤ 1000000; decide))
end
end
end Vw
set_option maxRecDepth 100000
set_option maxHeartbeats 4000000
namespace Vw
open PySem PySem.Spec L2
noncomputable section
section
variable {k : Nat} {M : Nat → Nat → Str} {S : Sto}
abbrev hlS : DS := (dSeq (dIte (dAnd (dCmpT (opEq false) (dBin opIx (dBin opIx (dVar 0) (dVar 3)) (dVar 4)) (dCon (.str ("stand" : Str)))) (dCmpT (opEq false) (dBin opIx (dBin opIx (dVar 0) (dVar 4)) (dVar 3)) (dCon (.str ("stand" : Str)))))
    (dSeq (dRet (dTup (dCons (dCon (.str ("stand" : Str))) (dCons (dVar 3) (dCons (dVar 4) dNil)))))
    dSkip) dSkip)
    dSkip)
abbrev hlT : DS := (dSeq (dIte (dAnd (dCmpT (opEq false) (dBin opIx (dBin opIx (dVar 0) (dVar 3)) (dVar 5)) (dCon (.str ("even" : Str)))) (dCmpT (opEq false) (dBin opIx (dBin opIx (dVar 0) (dVar 4)) (dVar 5)) (dCon (.str ("even" : Str)))))
    (dSeq (dRet (dTup (dCons (dCon (.str ("three" : Str))) (dCons (dVar 3) (dCons (dVar 4) (dCons (dVar 5) dNil))))))
    dSkip) dSkip)
    dSkip)
theorem dfor_find {α : Type} {G0 : Gam} {w : DI} {g : DG} {src : Src} {b : DS} {l : List α} {e : α → D} (hw : w G0 S = some (src, l.length + 1, S)) (hsrc : ∀ i, src i S = some (l.map e)[i]?) (R : Gam → Prop) (P : α → Option D) (h0 : R G0)
    (step : ∀ x ∈ l, ∀ G, R G → ∃ G1 G2, g (e x) G S = some (G1, S) ∧ b G1 S = some ((match P x with | none => Fl.nx | some r => Fl.rt r), G2, S) ∧ R G2) :
    ∃ G', dFor w g b G0 S = some ((match l.findSome? P with | none => Fl.nx | some r => Fl.rt r), G', S) ∧ R G' := by
  obtain ⟨G', e1, h⟩ := for_find (S := S) (g := g) (b := b) (l := l) (e := e) hsrc R P step l.length 0 G0 (by omega) h0
  rw [List.drop_zero] at e1
  exact ⟨G', (dFor_of hw).trans e1, h⟩
/-- a loop of a loop of nothing else -/
theorem in_for {R : Gam → Prop} {f : DS} {G1 : Gam} {P : Option D} (h : ∃ G', f G1 S = some ((match (generalizing := false) P with | none => Fl.nx | some r => Fl.rt r), G', S) ∧ R G') : ∃ G', dSeq f dSkip G1 S = some ((match (generalizing := false) P with | none => Fl.nx | some r => Fl.rt r), G', S) ∧ R G' := by
  obtain ⟨G', e, r⟩ := h
  refine ⟨G', ?_, r⟩
  cases P with
  | none => exact (dSeq_nx e).trans rfl
  | some d => exact dSeq_rt e
theorem hands_cut {x : Nat} {G : Gam} {i : Nat} (h2 : dVar 2 G S = some (.lst (intL (natL (List.range k))), S)) (hx : dVar x G S = some (.int (i : Nat), S)) (hi : i < k) (hk : k ≤ 10) :
    dSlG false (dVar 2) (doSome (dBin (opAdd false) (dVar x) (dCon (.int 1)))) doNone G S = some (.lst ((up k i).map fun j => D.int (j : Nat)), S) := by
  have q : dBin (opAdd false) (dVar x) (dCon (.int 1)) G S = some (.int ((i + 1 : Nat) : Int), S) := dBin_of hx rfl rfl
  unfold dSlG
  rw [h2]
  show ((doSome (dBin (opAdd false) (dVar x) (dCon (.int 1))) G S).bind fun p => (doNone G p.2).bind fun r => _) = _
  have q2 : doSome (dBin (opAdd false) (dVar x) (dCon (.int 1))) G S = some (some ((i + 1 : Nat) : Int), S) := by
    unfold doSome
    rw [q]; rfl
  rw [q2]
  show okLst false (cutD (intL (natL (List.range k))) (some ((i + 1 : Nat) : Int)) none) S = _
  rw [cut_drop (by rw [intL_len, natL_len, List.length_range]; omega), show (intL (natL (List.range k))).drop (i + 1) = (up k i).map fun j => D.int (j : Nat) from by
    show (((List.range k).map _).map _).drop (i + 1) = _
    rw [← List.map_drop, ← List.map_drop, up_drop hi, List.map_map]; rfl]
  exact okv (by rw [List.length_map, up_len]; omega)
theorem hulaw_ok (p : PlainM k M) (h2 : 2 ≤ k) (h6 : k ≤ 6) : ∃ S', fn_hulaw [gridD k M] S = some (hurD k M, S') ∧ Pre S S' := by
  let G (d1 d2 d3 d4 d5 : Option D) : Gam := [some (gridD k M), d1, d2, d3, d4, d5]
  obtain ⟨S1, e1, p1⟩ := brlaw_ok (S := S) (k := k) (M := M) h6 h2 fun a ha q => by rw [p.dia a ha] at q; exact absurd q (by decide)
  let B : D := optR (leastR (edgM M ["bow"]) k)
  let W : Option D := some (.lst (intL (natL (List.range k))))
  have el : dLrg false (dCall opLen (dCons (dVar 0) dNil)) (G none none none none none) S1 = some (.lst (intL (natL (List.range k))), S1) := by
    unfold dLrg
    rw [dCall_of (op := opLen) (fs := dCons (dVar 0) dNil) (G := G none none none none none) (dOne_of (d := gridD k M) (S1 := S1) rfl) len_grid]
    show (if -1000000 ≤ (k : Int) ∧ (k : Int) ≤ 1000000 then okLst false (rngD 0 k) S1 else none) = _
    rw [if_pos (by omega), okv (by rw [rngD_len]; omega), rng_map]
    show _ = some (D.lst (((List.range k).map fun j : Nat => (j : Int)).map D.int), S1)
    rw [List.map_map]; rfl
  have f1 : dPar 1 2 (dCons (dCallF 1 (dCons (dVar 0) dNil) fn_brlaw) (dCons (dLrg false (dCall opLen (dCons (dVar 0) dNil))) dNil)) (G none none none none none) S = some (.nx, G (some B) W none none none, S1) :=
    dPar_of (dCons_of (dCallF_of (ds := [gridD k M]) (S1 := S) rfl rfl e1) (dOne_of el))
  unfold hurD
  cases hL : leastR (edgM M ["bow"]) k with
  | some r =>
    have hB : B = rowV r := by show optR _ = _; rw [hL]; rfl
    have c3 : dCmpT (opIsN true) (dVar 1) (dCon .non) (G (some B) W none none none) S1 = some (true, S1) := by rw [hB]; exact dCmpT_of (x := rowV r) (y := .non) (S1 := S1) (S2 := S1) rfl rfl rfl
    refine ⟨S1, dFn_rt (G' := G (some B) W none none none) ((dSeq_nx f1).trans (dSeq_yes c3 rfl (dRetS_of ?_))), p1⟩
    rw [hB]
    exact dTup_of (ds := [.str "bow", rowV r]) (S1 := S1) rfl (by show 2 ≤ 1000000; decide)
  | none =>
    have hB : B = .non := by show optR _ = _; rw [hL]; rfl
    have c3 : dCmpT (opIsN true) (dVar 1) (dCon .non) (G (some B) W none none none) S1 = some (false, S1) := by rw [hB]; exact dCmpT_of (x := .non) (y := .non) (S1 := S1) (S2 := S1) rfl rfl rfl
    have hw : ∀ d3 d4 d5, dSeqI (dVar 2) (G (some B) W d3 d4 d5) S1 = some (fixS ((List.range k).map fun i => D.int (i : Nat)), (List.range k).length + 1, S1) := fun d3 d4 d5 => by
      have := dSeqI_l (f := dVar 2) (G := G (some B) W d3 d4 d5) (S := S1) (S1 := S1) (ds := intL (natL (List.range k))) rfl
      rw [intL_len, natL_len] at this
      rw [this, show intL (natL (List.range k)) = (List.range k).map fun i => D.int (i : Nat) from by show ((List.range k).map fun j : Nat => (j : Int)).map D.int = _; rw [List.map_map]; rfl]
    -- two that stand
    obtain ⟨G', e, d3, d4, rfl⟩ := dfor_find (S := S1) (g := dgName 3) (b := (dSeq (dFor (dSeqI (dSlG false (dVar 2) (doSome (dBin (opAdd false) (dVar 3) (dCon (.int 1)))) doNone)) (dgName 4)
      hlS)
      dSkip)) (hw none none none) fix_src (fun G' => ∃ d3 d4, G' = G (some B) W d3 d4 none) (fun i => (up k i).findSome? (stP M i)) ⟨none, none, rfl⟩
      (fun i hi G' hR => by
        obtain ⟨d3, d4, rfl⟩ := hR
        have hi := List.mem_range.mp hi
        let I : Option D := some (.int (i : Nat))
        have hr := dSeqI_l (hands_cut (S := S1) (G := G (some B) W I d4 none) (x := 3) (i := i) rfl rfl hi (by omega))
        rw [List.length_map] at hr
        obtain ⟨G', e, d3', d4', rfl⟩ := in_for (R := fun G' => ∃ d3 d4, G' = G (some B) W d3 d4 none) (P := (up k i).findSome? (stP M i)) (by
          obtain ⟨G', e, d4', rfl⟩ := dfor_find (S := S1) (g := dgName 4) (b := hlS) hr fix_src (fun G' => ∃ d4, G' = G (some B) W I d4 none) (stP M i) ⟨d4, rfl⟩
            (fun j hj G' hR => by
              obtain ⟨d4, rfl⟩ := hR
              obtain ⟨j1, j2⟩ := up_mem.mp hj
              let J : Option D := some (.int (j : Nat))
              have t := dAnd_of (wc_ix (S := S1) (k := k) (M := M) (w := "stand") (G := G (some B) W I J none) (x := 3) (y := 4) (a := i) (b := j) (fun _ => rfl) (fun _ => rfl) (fun _ => rfl) hi j2) (wc_ix (S := S1) (k := k) (M := M) (w := "stand") (G := G (some B) W I J none) (x := 4) (y := 3) (a := j) (b := i) (fun _ => rfl) (fun _ => rfl) (fun _ => rfl) j2 hi)
              rw [and_pair] at t
              refine ⟨G (some B) W I J none, G (some B) W I J none, rfl, ?_, J, rfl⟩
              unfold stP
              by_cases hc : M i j = "stand" ∧ M j i = "stand"
              · rw [if_pos hc]
                exact dSeq_yes t (decide_eq_true hc) (dRetS_of (dTup_of (ds := [.str "stand", .int (i : Nat), .int (j : Nat)]) rfl (by show 3 ≤ 1000000; decide)))
              · rw [if_neg hc]
                exact (dSeq_no t (decide_eq_false hc)).trans rfl)
          exact ⟨_, e, I, d4', rfl⟩)
        exact ⟨_, _, rfl, e, d3', d4', rfl⟩)
    have start : ∀ {fl G' S'} {h : DS}, h (G (some B) W none none none) S1 = some (fl, G', S') → dSeq (dPar 1 2 (dCons (dCallF 1 (dCons (dVar 0) dNil) fn_brlaw) (dCons (dLrg false (dCall opLen (dCons (dVar 0) dNil))) dNil))) (dSeq (dIte (dCmpT (opIsN true) (dVar 1) (dCon .non)) (dSeq (dRet (dTup (dCons (dCon (.str ("bow" : Str))) (dCons (dVar 1) dNil)))) dSkip) dSkip) h) (G none none none none none) S = some (fl, G', S') := fun h => (dSeq_nx f1).trans ((dSeq_no c3 rfl).trans h)
    have hst : stF k M = (List.range k).findSome? fun i => (up k i).findSome? (stP M i) := rfl
    cases hS : stF k M with
    | some d =>
      rw [hst] at hS
      rw [hS] at e
      exact ⟨S1, dFn_rt (G' := G (some B) W d3 d4 none) (start (dSeq_rt e)), p1⟩
    | none =>
      rw [hst] at hS
      rw [hS] at e
      obtain ⟨G', e2, d3', d4', d5', rfl⟩ := dfor_find (S := S1) (g := dgName 3) (b := (dSeq (dFor (dSeqI (dLc false [4] (dSeqI (dSlG false (dVar 2) (doSome (dBin (opAdd false) (dVar 3) (dCon (.int 1)))) doNone)) (dgName 4) (dCmpT (opEq false) (dBin opIx (dBin opIx (dVar 0) (dVar 3)) (dVar 4)) (dCon (.str ("even" : Str)))) (dVar 4))) (dgName 4)
        (dSeq (dFor (dSeqI (dSlG false (dVar 2) (doSome (dBin (opAdd false) (dVar 4) (dCon (.int 1)))) doNone)) (dgName 5)
        hlT)
        dSkip))
        dSkip)) (hw d3 d4 none) fix_src (fun G' => ∃ d3 d4 d5, G' = G (some B) W d3 d4 d5) (fun i => ((up k i).filter fun j => decide (M i j = wEven)).findSome? fun j => (up k j).findSome? (thP M g4 i j)) ⟨d3, d4, none, rfl⟩
        (fun i hi G' hR => by
          obtain ⟨d3, d4, d5, rfl⟩ := hR
          have hi := List.mem_range.mp hi
          let I : Option D := some (.int (i : Nat))
          have hr0 : ∀ d4, dSeqI (dSlG false (dVar 2) (doSome (dBin (opAdd false) (dVar 3) (dCon (.int 1)))) doNone) (G (some B) W I d4 d5) S1 = some (fixS ((up k i).map fun j => D.int (j : Nat)), (up k i).length + 1, S1) := fun d4 => by
            have := dSeqI_l (hands_cut (S := S1) (G := G (some B) W I d4 d5) (x := 3) (i := i) rfl rfl hi (by omega))
            rwa [List.length_map] at this
          have el := lc_pure (c := false) (own := [4]) (g := dgName 4) (t := dCmpT (opEq false) (dBin opIx (dBin opIx (dVar 0) (dVar 3)) (dVar 4)) (dCon (.str ("even" : Str)))) (f := dVar 4) (G := G (some B) W I d4 d5) (l := up k i) (e := fun j => D.int (j : Nat)) (hr0 d4) rfl fix_src (fun j => decide (M i j = wEven)) (fun j => D.int (j : Nat)) fun j hj => by
            obtain ⟨j1, j2⟩ := up_mem.mp hj
            exact ⟨G (some B) W I (some (.int (j : Nat))) d5, rfl, wc_ix (S := S1) (k := k) (M := M) (w := wEven) (G := G (some B) W I (some (.int (j : Nat))) d5) (x := 3) (y := 4) (a := i) (b := j) (fun _ => rfl) (fun _ => rfl) (fun _ => rfl) hi j2, fun _ => rfl⟩
          rw [okv (by rw [List.length_map]; have := List.length_filter_le (fun j => decide (M i j = wEven)) (up k i); rw [up_len] at this; omega)] at el
          have hr := dSeqI_l el
          rw [List.length_map] at hr
          obtain ⟨G', e, d3', d4', d5', rfl⟩ := in_for (R := fun G' => ∃ d3 d4 d5, G' = G (some B) W d3 d4 d5) (P := ((up k i).filter fun j => decide (M i j = wEven)).findSome? fun j => (up k j).findSome? (thP M g4 i j)) (by
            obtain ⟨G', e, d4', d5', rfl⟩ := dfor_find (S := S1) (g := dgName 4) (b := (dSeq (dFor (dSeqI (dSlG false (dVar 2) (doSome (dBin (opAdd false) (dVar 4) (dCon (.int 1)))) doNone)) (dgName 5)
              hlT)
              dSkip)) hr fix_src (fun G' => ∃ d4 d5, G' = G (some B) W I d4 d5) (fun j => (up k j).findSome? (thP M g4 i j)) ⟨d4, d5, rfl⟩
              (fun j hj G' hR => by
                obtain ⟨d4, d5, rfl⟩ := hR
                obtain ⟨j1, j2⟩ := up_mem.mp (List.mem_filter.mp hj).1
                let J : Option D := some (.int (j : Nat))
                have hr := dSeqI_l (hands_cut (S := S1) (G := G (some B) W I J d5) (x := 4) (i := j) rfl rfl j2 (by omega))
                rw [List.length_map] at hr
                obtain ⟨G', e, d4', d5', rfl⟩ := in_for (R := fun G' => ∃ d4 d5, G' = G (some B) W I d4 d5) (P := (up k j).findSome? (thP M g4 i j)) (by
                  obtain ⟨G', e, d5', rfl⟩ := dfor_find (S := S1) (g := dgName 5) (b := hlT) hr fix_src (fun G' => ∃ d5, G' = G (some B) W I J d5) (thP M g4 i j) ⟨d5, rfl⟩
                    (fun c hc G' hR => by
                      obtain ⟨d5, rfl⟩ := hR
                      obtain ⟨c1, c2⟩ := up_mem.mp hc
                      let C : Option D := some (.int (c : Nat))
                      have t := dAnd_of (wc_ix (S := S1) (k := k) (M := M) (w := wEven) (G := G (some B) W I J C) (x := 3) (y := 5) (a := i) (b := c) (fun _ => rfl) (fun _ => rfl) (fun _ => rfl) hi c2) (wc_ix (S := S1) (k := k) (M := M) (w := wEven) (G := G (some B) W I J C) (x := 4) (y := 5) (a := j) (b := c) (fun _ => rfl) (fun _ => rfl) (fun _ => rfl) j2 c2)
                      rw [and_pair] at t
                      refine ⟨G (some B) W I J C, G (some B) W I J C, rfl, ?_, C, rfl⟩
                      unfold thP
                      by_cases hc : M i c = wEven ∧ M j c = wEven
                      · rw [if_pos hc]
                        exact dSeq_yes t (decide_eq_true hc) (dRetS_of (dTup_of (ds := [.str "three", .int (i : Nat), .int (j : Nat), .int (c : Nat)]) rfl (by show 4 ≤ 1000000; decide)))
                      · rw [if_neg hc]
                        exact (dSeq_no t (decide_eq_false hc)).trans rfl)
                  exact ⟨_, e, J, d5', rfl⟩)
                exact ⟨_, _, rfl, e, d4', d5', rfl⟩)
            exact ⟨_, e, I, d4', d5', rfl⟩)
          exact ⟨_, _, rfl, e, d3', d4', d5', rfl⟩)
      have hth : thF k M g4 = (List.range k).findSome? fun i => ((up k i).filter fun j => decide (M i j = wEven)).findSome? fun j => (up k j).findSome? (thP M g4 i j) := rfl
      cases hT : thF k M g4 with
      | some d =>
        rw [hth] at hT
        rw [hT] at e2
        exact ⟨S1, dFn_rt (G' := G (some B) W d3' d4' d5') (start ((dSeq_nx e).trans (dSeq_rt e2))), p1⟩
      | none =>
        rw [hth] at hT
        rw [hT] at e2
        exact ⟨S1, dFn_rt (G' := G (some B) W d3' d4' d5') (start ((dSeq_nx e).trans ((dSeq_nx e2).trans (dRetS_of rfl)))), p1⟩
inductive Lik : Nat → D → Prop
  | non {n : Nat} : Lik n .non
  | int {n : Nat} {i : Int} : Lik n (.int i)
  | str {n : Nat} {x : Str} : Lik n (.str x)
  | tup {n : Nat} {ds : List D} : ds.length ≤ 1000 → (∀ d ∈ ds, Lik n d) → Lik (n + 1) (.tup ds)
theorem isi_at {ty : String} {x : D} {f : DE} {G : Gam} (h : f G S = some (x, S)) : dIsi ty f G S = dIsi ty (fun _ S => some (x, S)) [] S := by
  unfold dIsi
  rw [h]
theorem isi_tup_no {x : D} (h : x = .non ∨ (∃ i, x = .int i) ∨ ∃ y, x = .str y) : dIsi "tuple" (fun _ S => some (x, S)) [] S = some (.bl false, S) := by
  have k1 : kitB "NoneType" "tuple" = some false := by decide +kernel
  have k2 : kitB "int" "tuple" = some false := by decide +kernel
  have k3 : kitB "str" "tuple" = some false := by decide +kernel
  rcases h with rfl | ⟨i, rfl⟩ | ⟨y, rfl⟩
  · show ((kitB "NoneType" "tuple").map fun b => (D.bl b, S)) = _
    rw [k1]; rfl
  · show ((kitB "int" "tuple").map fun b => (D.bl b, S)) = _
    rw [k2]; rfl
  · show ((kitB "str" "tuple").map fun b => (D.bl b, S)) = _
    rw [k3]; rfl
theorem isi_str {y : Str} : dIsi "bool" (fun _ S => some (.str y, S)) [] S = some (.bl false, S) ∧ dIsi "int" (fun _ S => some (.str y, S)) [] S = some (.bl false, S) ∧ dIsi "str" (fun _ S => some (.str y, S)) [] S = some (.bl true, S) := by
  have k1 : kitB "str" "bool" = some false := by decide +kernel
  have k2 : kitB "str" "int" = some false := by decide +kernel
  have k3 : kitB "str" "str" = some true := by decide +kernel
  refine ⟨?_, ?_, ?_⟩
  · show ((kitB "str" "bool").map fun b => (D.bl b, S)) = _
    rw [k1]; rfl
  · show ((kitB "str" "int").map fun b => (D.bl b, S)) = _
    rw [k2]; rfl
  · show ((kitB "str" "str").map fun b => (D.bl b, S)) = _
    rw [k3]; rfl
theorem like_non {n : Nat} : fN_hulike (n + 1) [.non, .non] S = some (.bl true, S) := by
  let G : Gam := [some .non, some .non, none]
  have c1 : dTst (dIsi "tuple" (dVar 1)) G S = some (false, S) := dTst_of ((isi_at (x := .non) rfl).trans (isi_tup_no (.inl rfl)))
  have c2 : dCmpT (opIsN false) (dVar 1) (dCon .non) G S = some (true, S) := dCmpT_of (x := .non) (y := .non) (S1 := S) (S2 := S) rfl rfl rfl
  exact dFn_rt (G' := G) ((dSeq_no c1 rfl).trans (dSeq_yes c2 rfl (dRetS_of (dBin_of (x := .non) (y := .non) (S1 := S) (S2 := S) rfl rfl rfl))))
theorem like_int {n : Nat} {i : Int} : fN_hulike (n + 1) [.int i, .int i] S = some (.bl true, S) := by
  let G : Gam := [some (.int i), some (.int i), none]
  have c1 : dTst (dIsi "tuple" (dVar 1)) G S = some (false, S) := dTst_of ((isi_at (x := .int i) rfl).trans (isi_tup_no (.inr (.inl ⟨i, rfl⟩))))
  have c2 : dCmpT (opIsN false) (dVar 1) (dCon .non) G S = some (false, S) := dCmpT_of (x := .int i) (y := .non) (S1 := S) (S2 := S) rfl rfl rfl
  have c3 : dTst (dIsi "bool" (dVar 1)) G S = some (false, S) := dTst_of (isi_bool rfl)
  have c4 : dTst (dIsi "int" (dVar 1)) G S = some (true, S) := dTst_of (isi_int rfl)
  have v : dAndV (dIsi "int" (dVar 0)) (dAndV (dNotV (dIsi "bool" (dVar 0))) (dBin (opEq false) (dVar 0) (dVar 1))) G S = some (.bl true, S) := by
    refine dAndV_of (x := true) (y := true) (isi_int rfl) (dAndV_of (x := true) (y := true) (dNotV_of (x := false) (isi_bool rfl)) (dBin_of (x := .int i) (y := .int i) (S1 := S) (S2 := S) rfl rfl ?_))
    rw [eq_int, decide_eq_true rfl]
  exact dFn_rt (G' := G) ((dSeq_no c1 rfl).trans ((dSeq_no c2 rfl).trans ((dSeq_no c3 rfl).trans (dSeq_yes c4 rfl (dRetS_of v)))))
theorem like_str {n : Nat} {y : Str} : fN_hulike (n + 1) [.str y, .str y] S = some (.bl true, S) := by
  let G : Gam := [some (.str y), some (.str y), none]
  obtain ⟨s1, s2, s3⟩ := isi_str (S := S) (y := y)
  have c1 : dTst (dIsi "tuple" (dVar 1)) G S = some (false, S) := dTst_of ((isi_at (x := .str y) rfl).trans (isi_tup_no (.inr (.inr ⟨y, rfl⟩))))
  have c2 : dCmpT (opIsN false) (dVar 1) (dCon .non) G S = some (false, S) := dCmpT_of (x := .str y) (y := .non) (S1 := S) (S2 := S) rfl rfl rfl
  have c3 : dTst (dIsi "bool" (dVar 1)) G S = some (false, S) := dTst_of ((isi_at (x := .str y) rfl).trans s1)
  have c4 : dTst (dIsi "int" (dVar 1)) G S = some (false, S) := dTst_of ((isi_at (x := .str y) rfl).trans s2)
  have v : dAndV (dIsi "str" (dVar 0)) (dBin (opEq false) (dVar 0) (dVar 1)) G S = some (.bl true, S) := dAndV_of (x := true) (y := true) ((isi_at (x := .str y) rfl).trans s3) (dBin_of (x := .str y) (y := .str y) (S1 := S) (S2 := S) rfl rfl eq_self)
  exact dFn_rt (G' := G) ((dSeq_no c1 rfl).trans ((dSeq_no c2 rfl).trans ((dSeq_no c3 rfl).trans ((dSeq_no c4 rfl).trans (dRetS_of v)))))
theorem like_tup {n : Nat} {ds : List D} (hl : ds.length ≤ 1000) (h : ∀ d ∈ ds, fN_hulike n [d, d] S = some (.bl true, S)) : fN_hulike (n + 1) [.tup ds, .tup ds] S = some (.bl true, S) := by
  let G (d2 : Option D) : Gam := [some (.tup ds), some (.tup ds), d2]
  have c1 : dTst (dIsi "tuple" (dVar 1)) (G none) S = some (true, S) := dTst_of (isi_tup (ds := ds) rfl)
  have ln : ∀ v, v = 0 ∨ v = 1 → dCall opLen (dCons (dVar v) dNil) (G none) S = some (.int ((ds.length : Nat) : Int), S) := fun v hv => by
    have := len_seq (S := S) (x := .tup ds) rfl
    rcases hv with rfl | rfl
    · exact dCall_of (dOne_of (d := .tup ds) (S1 := S) rfl) this
    · exact dCall_of (dOne_of (d := .tup ds) (S1 := S) rfl) this
  have c2 : dOr (dNot (dTst (dIsi "tuple" (dVar 0)))) (dCmpT (opEq true) (dCall opLen (dCons (dVar 0) dNil)) (dCall opLen (dCons (dVar 1) dNil))) (G none) S = some (false, S) :=
    dOr_ff (dNot_of (b := true) (dTst_of (isi_tup (ds := ds) rfl))) (dCmpT_of (ln 0 (.inl rfl)) (ln 1 (.inr rfl)) (by rw [ne_int, decide_eq_true rfl]; rfl))
  have hr := rng1_ok (fs := dCons (dCall opLen (dCons (dVar 1) dNil)) dNil) (k := ds.length) (G := G none) (S := S) (dOne_of (ln 1 (.inr rfl))) (by omega)
  rw [rng_map] at hr
  have v := lc_all (own := [2]) (g := dgName 2) (f := dCallF 2 (dCons (dBin opIx (dVar 0) (dVar 2)) (dCons (dBin opIx (dVar 1) (dVar 2)) dNil)) (fN_hulike n)) (G := G none) (l := List.range ds.length) (e := fun i => D.int (i : Nat)) hr (by rw [List.length_range]) (by rw [List.length_range]; omega) fix_src fun i hi => by
    have hi := List.mem_range.mp hi
    have hx : ∀ v, v = 0 ∨ v = 1 → dBin opIx (dVar v) (dVar 2) (G (some (.int (i : Nat)))) S = some (ds[i], S) := fun v hv => by
      rcases hv with rfl | rfl
      · exact dBin_of (x := .tup ds) (y := .int (i : Nat)) (S1 := S) (S2 := S) rfl rfl (ix_seq' rfl (List.getElem?_eq_getElem hi))
      · exact dBin_of (x := .tup ds) (y := .int (i : Nat)) (S1 := S) (S2 := S) rfl rfl (ix_seq' rfl (List.getElem?_eq_getElem hi))
    exact ⟨G (some (.int (i : Nat))), rfl, dCallF_of (ds := [ds[i], ds[i]]) (S1 := S) (dCons_of (hx 0 (.inl rfl)) (dOne_of (hx 1 (.inr rfl)))) rfl (h _ (List.getElem_mem hi))⟩
  exact dFn_rt (G' := G none) (dSeq_yes c1 rfl ((dSeq_no c2 rfl).trans (dRetS_of v)))
theorem like_ok : ∀ (n : Nat) (d : D), Lik n d → fN_hulike (n + 1) [d, d] S = some (.bl true, S)
  | 0, d, h => by
    cases h with
    | non => exact like_non
    | int => exact like_int
    | str => exact like_str
  | n + 1, d, h => by
    cases h with
    | non => exact like_non
    | int => exact like_int
    | str => exact like_str
    | tup hl hd => exact like_tup hl fun d hm => like_ok n d (hd d hm)
theorem lik_row {r : List Nat} (hl : r.length ≤ 1000) {n : Nat} : Lik (n + 1) (rowV r) := .tup (by rw [intL_len, natL_len]; exact hl) fun d hd => by
  obtain ⟨z, _, rfl⟩ := List.mem_map.mp hd
  exact .int
theorem lik_hur (h6 : k ≤ 6) : Lik 7 (hurD k M) := by
  unfold hurD
  cases hL : leastR (edgM M ["bow"]) k with
  | some r =>
    refine .tup (by show 2 ≤ 1000; decide) fun d hd => ?_
    rcases List.mem_cons.mp hd with rfl | hd
    · exact .str
    · rw [List.mem_singleton.mp hd]
      have hm : r ∈ allR (edgM M ["bow"]) k := by
        unfold leastR at hL
        cases hA : allR (edgM M ["bow"]) k with
        | nil => rw [hA] at hL; cases hL
        | cons p rest =>
          rw [hA] at hL
          cases hL
          exact (minR_ok rest p).1
      have := ((allR_iff (by omega)).mp hm).1.len
      exact lik_row (by omega)
  | none =>
    cases hS : stF k M with
    | some d =>
      obtain ⟨i, _, h⟩ := List.exists_of_findSome?_eq_some hS
      obtain ⟨j, _, h⟩ := List.exists_of_findSome?_eq_some h
      unfold stP at h
      split at h
      · cases h
        refine .tup (by show 3 ≤ 1000; decide) fun d hd => ?_
        rcases List.mem_cons.mp hd with rfl | hd
        · exact .str
        · rcases List.mem_cons.mp hd with rfl | hd
          · exact .int
          · rw [List.mem_singleton.mp hd]; exact .int
      · cases h
    | none =>
      cases hT : thF k M g4 with
      | none => exact .non
      | some d =>
        obtain ⟨i, j, c, rfl⟩ := fs_shape hT
        refine .tup (by show 4 ≤ 1000; decide) fun d hd => ?_
        rcases List.mem_cons.mp hd with rfl | hd
        · exact .str
        · rcases List.mem_cons.mp hd with rfl | hd
          · exact .int
          · rcases List.mem_cons.mp hd with rfl | hd
            · exact .int
            · rw [List.mem_singleton.mp hd]; exact .int
end
end
end Vw
set_option maxRecDepth 100000
set_option maxHeartbeats 4000000
namespace Vk
noncomputable section
open PySem PySem.Spec L2 Vw
section
variable {S : Sto} {N : Nat}
structure Tab where
  k : Nat
  M : Nat → Nat → Str
def Tab.ok (t : Tab) : Prop := 2 ≤ t.k ∧ t.k ≤ 6 ∧ PlainM t.k t.M
abbrev tabD (t : Tab) : D := gridD t.k t.M
abbrev dueD (t : Tab) : D := hurD t.k t.M
theorem plain_ok (b : Fek N S) (hN : N ≤ S.length) {G : Gam} (h1 : ∀ S, dVar 1 G S = some (.loc 1, S)) : ∃ (t : Tab) (S' : Sto), dCallF 2 (dCons (dVar 1) (dCons (dBin (opAdd false) (dCon (.int 2)) (dCallF 2 (dCons (dVar 1) (dCons (dCon (.int 5)) dNil)) fn_lawdraw)) dNil)) fn_lawplain G S = some (tabD t, S') ∧ t.ok ∧ Fek N S' ∧ KeepG N S S' := by
  obtain ⟨m, S1, e1, hm, b1, k1⟩ := fd_draw (size := 5) b (by decide) (by decide)
  have hN1 : N ≤ S1.length := by rw [k1.len]; exact hN
  obtain ⟨M, S2, e2, p2, b2, k2⟩ := fd_plain (k := 2 + m) b1 hN1 (by omega) (by omega)
  refine ⟨⟨2 + m, M⟩, S2, dCallF_of (ds := [.loc 1, .int ((2 + m : Nat) : Int)]) (S1 := S1) (dCons_of (h1 S) (dOne_of (dBin_of (x := .int 2) (S1 := S) rfl (dCallF_of (ds := [.loc 1, .int 5]) (S1 := S) (dCons_of (h1 S) (dOne_of rfl)) rfl e1) ?_))) rfl e2, ⟨by show 2 ≤ 2 + m; omega, by show 2 + m ≤ 6; omega, p2⟩, b2, k1.grow.trans k2⟩
  show some (D.int (2 + (m : Int)), S1) = _
  rw [show ((2 + m : Nat) : Int) = 2 + (m : Int) by omega]
end
theorem law_data : ∀ ns : List Int, ns.length ≤ 63 → ∃ S', fn_law [.scr (intL ns)] [] = some (.bl true, S') := by
  intro ns hl
  obtain ⟨S0, e0, b0⟩ := fd_bag (c := 15783) ns hl
  let sc : D := .scr (intL ns)
  let N := S0.length
  let G (d2 d3 d4 d5 d6 : Option D) : Gam := [some sc, some (.loc 1), d2, d3, d4, d5, d6]
  have f0 : dAsg (dCallF 1 (dCons (dVar 0) dNil) fn_lawbag) (dgName 1) [some sc, none, none, none, none, none, none] [] = some (.nx, G none none none none none, S0) := dAsg_of (dCallF_of (dOne_of rfl) rfl e0)
  have hr := rng1_ok (fs := dCons (dCon (.int 3)) dNil) (k := 3) (G := G none none none none none) (S := S0) rfl (by omega)
  obtain ⟨out, S1, e1, ts, rfl, hlen, hok, b1, k1⟩ := lc_inv (src := fixS (rngD 0 ((3 : Nat) : Int))) (g := dgName 4) (t := dYes) (f := dCallF 2 (dCons (dVar 1) (dCons (dBin (opAdd false) (dCon (.int 2)) (dCallF 2 (dCons (dVar 1) (dCons (dCon (.int 5)) dNil)) fn_lawdraw)) dNil)) fn_lawplain) (G := G none none none none none) (ds := rngD 0 ((3 : Nat) : Int))
    (fun i S' acc => ∃ ts : List Tab, acc = ts.map tabD ∧ ts.length = i ∧ (∀ t ∈ ts, t.ok) ∧ Fek N S' ∧ KeepG N S0 S') (fun i S' acc h => rfl)
    (fun i S' acc d hd h => by
      obtain ⟨ts, rfl, hlen, hok, hb, hkp⟩ := h
      obtain ⟨t, S2, e, ht, b2, k2⟩ := plain_ok (G := G none none (some d) none none) hb (Nat.le_trans (Nat.le_refl _) hkp.len) (fun _ => rfl)
      refine ⟨G none none (some d) none none, S', true, S', rfl, rfl, fun _ => ⟨tabD t, S2, e, ts ++ [t], by simp, by rw [List.length_append, hlen]; rfl, fun x hx => ?_, b2, hkp.trans k2⟩, fun h => by cases h⟩
      rcases List.mem_append.mp hx with hx | hx
      · exact hok x hx
      · rw [List.mem_singleton.mp hx]; exact ht) 3 0 S0 [] (by rw [rngD_len]) ⟨[], rfl, rfl, fun t h => (by cases h), b0, .refl⟩
  rw [rngD_len] at hlen
  have el := (dLc_of (c := false) (own := [4]) (G := G none none none none none) hr e1).trans (okv (by rw [List.length_map]; omega))
  let T : Option D := some (.lst (ts.map tabD))
  have f1 := dAsg_of (i := 2) el
  have hN1 : N ≤ S1.length := k1.len
  have hw2 := dSeqI_l (f := dVar 2) (G := G T none none none none) (S := S1) (S1 := S1) (ds := ts.map tabD) rfl
  obtain ⟨out2, S2, e2, rfl, p2⟩ := lc_inv (src := fixS (ts.map tabD)) (g := dgName 6) (t := dYes) (f := dCallF 1 (dCons (dVar 6) dNil) fn_lawhurdle) (G := G T none none none none) (ds := ts.map tabD)
    (fun i S' acc => acc = (ts.take i).map dueD ∧ Pre S1 S') (fun i S' acc h => rfl)
    (fun i S' acc d hd h => by
      obtain ⟨rfl, pr⟩ := h
      rw [List.getElem?_map] at hd
      obtain ⟨t, ht, rfl⟩ := Option.map_eq_some_iff.mp hd
      obtain ⟨h2, h6, hp⟩ := hok t (List.mem_of_getElem? ht)
      obtain ⟨S3, e3, p3⟩ := hulaw_ok (S := S') hp h2 h6
      exact ⟨G T none none none (some (tabD t)), S', true, S', rfl, rfl, fun _ => ⟨dueD t, S3, dCallF_of (ds := [tabD t]) (S1 := S') rfl rfl e3, by rw [List.take_add_one, ht, List.map_append]; rfl, pr.trans p3⟩, fun h => by cases h⟩) (ts.map tabD).length 0 S1 [] (by omega) ⟨rfl, .refl⟩
  rw [List.length_map, List.take_length] at e2
  have el2 := (dLc_of (c := false) (own := [6]) (G := G T none none none none) hw2 (by rw [List.length_map]; exact e2)).trans (okv (by rw [List.length_map]; omega))
  let U : Option D := some (.lst (ts.map dueD))
  have f2 := dAsg_of (i := 3) el2
  have hr4 := rng1_ok (fs := dCons (dCon (.int 6)) dNil) (k := 6) (G := G T U none none none) (S := S2) rfl (by omega)
  obtain ⟨G3, S3, e3, d4, d5, rfl⟩ := for_inv (src := fixS (rngD 0 ((6 : Nat) : Int))) (g := dgName 4) (b := (dSeq (dAsg (dBin opMod (dCall opInt (dCons (dVar 4) dNil)) (dCon (.int 3))) (dgName 5))
    (dSeq (dIte (dNot (dTst (dCallF 2 (dCons (dCallF 1 (dCons (dBin opIx (dVar 2) (dVar 5)) dNil) fn_hurdle) (dCons (dBin opIx (dVar 3) (dVar 5)) dNil)) fn_lawlike)))
    (dSeq (dRet (dCon (.bl false)))
    dSkip) dSkip)
    dSkip))) (ds := rngD 0 ((6 : Nat) : Int))
    (fun i G' S' => ∃ d4 d5, G' = G T U d4 d5 none) (fun i G' S' h => rfl)
    (fun i G' S' d hd h => by
      obtain ⟨d4, d5, rfl⟩ := h
      have hi : i < 6 := by have := (List.getElem?_eq_some_iff.mp hd).1; rwa [rngD_len] at this
      rw [rngD_get hi] at hd
      cases hd
      let I : Option D := some (.int (i : Nat))
      have hs : i % 3 < ts.length := by omega
      let t := ts[i % 3]
      let P : Option D := some (.int ((i % 3 : Nat) : Int))
      have x1 : dAsg (dBin opMod (dCall opInt (dCons (dVar 4) dNil)) (dCon (.int 3))) (dgName 5) (G T U I d5 none) S' = some (.nx, G T U I P none, S') := dAsg_of (dBin_of (dCall_of (dOne_of (d := .int (i : Nat)) (S1 := S') rfl) int_int) rfl (by rw [mod_int (by decide)]; rfl))
      obtain ⟨h2, h6, hp⟩ := hok t (List.getElem_mem hs)
      obtain ⟨S4, e4, p4⟩ := hurd_ok (S := S') hp h2 h6
      have y1 : dBin opIx (dVar 2) (dVar 5) (G T U I P none) S' = some (tabD t, S') := dBin_of (x := .lst (ts.map tabD)) (y := .int ((i % 3 : Nat) : Int)) (S1 := S') (S2 := S') rfl rfl (ix_seq' rfl (by rw [List.getElem?_map, List.getElem?_eq_getElem hs]; rfl))
      have y2 : dBin opIx (dVar 3) (dVar 5) (G T U I P none) S4 = some (dueD t, S4) := dBin_of (x := .lst (ts.map dueD)) (y := .int ((i % 3 : Nat) : Int)) (S1 := S4) (S2 := S4) rfl rfl (ix_seq' rfl (by rw [List.getElem?_map, List.getElem?_eq_getElem hs]; rfl))
      have c : dNot (dTst (dCallF 2 (dCons (dCallF 1 (dCons (dBin opIx (dVar 2) (dVar 5)) dNil) fn_hurdle) (dCons (dBin opIx (dVar 3) (dVar 5)) dNil)) fn_lawlike)) (G T U I P none) S' = some (false, S4) :=
        dNot_of (b := true) (dTst_of (dCallF_of (ds := [dueD t, dueD t]) (S1 := S4) (dCons_of (dCallF_of (ds := [tabD t]) (S1 := S') (dOne_of y1) rfl e4) (dOne_of y2)) rfl (like_ok 7 _ (lik_hur h6))))
      exact ⟨_, S', G T U I P none, S4, rfl, (dSeq_nx x1).trans ((dSeq_no c rfl).trans rfl), I, P, rfl⟩) 6 0 (G T U none none none) S2 (by rw [rngD_len]) ⟨none, none, rfl⟩
  exact ⟨S3, dFn_rt (G' := G T U d4 d5 none) ((dSeq_nx f0).trans ((dSeq_nx f1).trans ((dSeq_nx f2).trans ((dSeq_nx ((dFor_of hr4).trans e3)).trans (dRetS_of rfl)))))⟩
end
end Vk
namespace Vk
open PySem PySem.Spec PyProof.Rows L2 Vw
theorem all_mk {w : World} {K : PySem.W.Frag} {h : Heap} {mg : Str → Option Value} {fa : Addr} (X : K.In h) (G : h.Ns mainGlobals mg) (hfa : mg "law" = some (.ref fa)) {Q : Program} (tabs : ∀ (y : Str) (dd : DefRec) (c P : Addr), (recsOf Q).find? (fun e => e.name == y) = some dd → PySem.W.tabIn K y = some (c, P) → h.get? P = some tab0) (kt : tupsIn K = true) {f1 : Addr} {od1 an1 : Option Addr} {sl1 : Array (Option Value)} {oc1 kV1 dc1 pm1 cd1 ct1 : Value} {f2 : Addr} {od2 an2 : Option Addr} {sl2 : Array (Option Value)} {oc2 kV2 dc2 pm2 cd2 ct2 : Value} {f3 : Addr} {od3 an3 : Option Addr} {sl3 : Array (Option Value)} {oc3 kV3 dc3 pm3 cd3 ct3 : Value} {f4 : Addr} {od4 an4 : Option Addr} {sl4 : Array (Option Value)} {oc4 kV4 dc4 pm4 cd4 ct4 : Value} {f5 : Addr} {od5 an5 : Option Addr} {sl5 : Array (Option Value)} {oc5 kV5 dc5 pm5 cd5 ct5 : Value} {f6 : Addr} {od6 an6 : Option Addr} {sl6 : Array (Option Value)} {oc6 kV6 dc6 pm6 cd6 ct6 : Value} {f7 : Addr} {od7 an7 : Option Addr} {sl7 : Array (Option Value)} {oc7 kV7 dc7 pm7 cd7 ct7 : Value} {f8 : Addr} {od8 an8 : Option Addr} {sl8 : Array (Option Value)} {oc8 kV8 dc8 pm8 cd8 ct8 : Value} {f9 : Addr} {od9 an9 : Option Addr} {sl9 : Array (Option Value)} {oc9 kV9 dc9 pm9 cd9 ct9 : Value} {f10 : Addr} {od10 an10 : Option Addr} {sl10 : Array (Option Value)} {oc10 kV10 dc10 pm10 cd10 ct10 : Value} {q10 P10 : Addr} {oq10 : Value} {dq10 : Option Addr} {vq10 : Array Value} {sq10 : Array (Option Value)} {dd10 : DefRec} {f11 : Addr} {od11 an11 : Option Addr} {sl11 : Array (Option Value)} {oc11 kV11 dc11 pm11 cd11 ct11 : Value} {q11 P11 : Addr} {oq11 : Value} {dq11 : Option Addr} {vq11 : Array Value} {sq11 : Array (Option Value)} {dd11 : DefRec} {f12 : Addr} {od12 an12 : Option Addr} {sl12 : Array (Option Value)} {oc12 kV12 dc12 pm12 cd12 ct12 : Value} {f13 : Addr} {od13 an13 : Option Addr} {sl13 : Array (Option Value)} {oc13 kV13 dc13 pm13 cd13 ct13 : Value} {f14 : Addr} {od14 an14 : Option Addr} {sl14 : Array (Option Value)} {oc14 kV14 dc14 pm14 cd14 ct14 : Value} {f15 : Addr} {od15 an15 : Option Addr} {sl15 : Array (Option Value)} {oc15 kV15 dc15 pm15 cd15 ct15 : Value} {f16 : Addr} {od16 an16 : Option Addr} {sl16 : Array (Option Value)} {oc16 kV16 dc16 pm16 cd16 ct16 : Value} {f17 : Addr} {od17 an17 : Option Addr} {sl17 : Array (Option Value)} {oc17 kV17 dc17 pm17 cd17 ct17 : Value} {f18 : Addr} {od18 an18 : Option Addr} {sl18 : Array (Option Value)} {oc18 kV18 dc18 pm18 cd18 ct18 : Value} {f19 : Addr} {od19 an19 : Option Addr} {sl19 : Array (Option Value)} {oc19 kV19 dc19 pm19 cd19 ct19 : Value} {f20 : Addr} {od20 an20 : Option Addr} {sl20 : Array (Option Value)} {oc20 kV20 dc20 pm20 cd20 ct20 : Value} {f21 : Addr} {od21 an21 : Option Addr} {sl21 : Array (Option Value)} {oc21 kV21 dc21 pm21 cd21 ct21 : Value} {f22 : Addr} {od22 an22 : Option Addr} {sl22 : Array (Option Value)} {oc22 kV22 dc22 pm22 cd22 ct22 : Value} {f23 : Addr} {od23 an23 : Option Addr} {sl23 : Array (Option Value)} {oc23 kV23 dc23 pm23 cd23 ct23 : Value} {f24 : Addr} {od24 an24 : Option Addr} {sl24 : Array (Option Value)} {oc24 kV24 dc24 pm24 cd24 ct24 : Value} {f25 : Addr} {od25 an25 : Option Addr} {sl25 : Array (Option Value)} {oc25 kV25 dc25 pm25 cd25 ct25 : Value} {f26 : Addr} {od26 an26 : Option Addr} {sl26 : Array (Option Value)} {oc26 kV26 dc26 pm26 cd26 ct26 : Value} {f27 : Addr} {od27 an27 : Option Addr} {sl27 : Array (Option Value)} {oc27 kV27 dc27 pm27 cd27 ct27 : Value} {f28 : Addr} {od28 an28 : Option Addr} {sl28 : Array (Option Value)} {oc28 kV28 dc28 pm28 cd28 ct28 : Value} {f29 : Addr} {od29 an29 : Option Addr} {sl29 : Array (Option Value)} {oc29 kV29 dc29 pm29 cd29 ct29 : Value} {f30 : Addr} {od30 an30 : Option Addr} {sl30 : Array (Option Value)} {oc30 kV30 dc30 pm30 cd30 ct30 : Value} {f31 : Addr} {od31 an31 : Option Addr} {sl31 : Array (Option Value)} {oc31 kV31 dc31 pm31 cd31 ct31 : Value} {f32 : Addr} {od32 an32 : Option Addr} {sl32 : Array (Option Value)} {oc32 kV32 dc32 pm32 cd32 ct32 : Value} {f33 : Addr} {od33 an33 : Option Addr} {sl33 : Array (Option Value)} {oc33 kV33 dc33 pm33 cd33 ct33 : Value} {f34 : Addr} {od34 an34 : Option Addr} {sl34 : Array (Option Value)} {oc34 kV34 dc34 pm34 cd34 ct34 : Value}
    (a1 : PySem.W.nsIn K mainGlobals "is_whole" = some (some (.ref f1))) (l1 : K.lookup f1 = some ⟨oc1, od1, .func (PySem.W.fnOf "is_whole" "is_whole" (defArgs s_iswhole) (defBody s_iswhole) (defScope s_iswhole) .none kV1 dc1 pm1 an1 cd1 ct1), sl1⟩) (c1 : PySem.W.codeIn K cd1 "is_whole" = true) (k1 : PySem.W.keepIn K (.ref f1) = true)
    (a2 : PySem.W.nsIn K mainGlobals "is_hand" = some (some (.ref f2))) (l2 : K.lookup f2 = some ⟨oc2, od2, .func (PySem.W.fnOf "is_hand" "is_hand" (defArgs s_ishand) (defBody s_ishand) (defScope s_ishand) .none kV2 dc2 pm2 an2 cd2 ct2), sl2⟩) (c2 : PySem.W.codeIn K cd2 "is_hand" = true) (k2 : PySem.W.keepIn K (.ref f2) = true)
    (a3 : PySem.W.nsIn K mainGlobals "_is_row" = some (some (.ref f3))) (l3 : K.lookup f3 = some ⟨oc3, od3, .func (PySem.W.fnOf "_is_row" "_is_row" (defArgs s_isrow) (defBody s_isrow) (defScope s_isrow) .none kV3 dc3 pm3 an3 cd3 ct3), sl3⟩) (c3 : PySem.W.codeIn K cd3 "_is_row" = true) (k3 : PySem.W.keepIn K (.ref f3) = true)
    (a4 : PySem.W.nsIn K mainGlobals "_table_error" = some (some (.ref f4))) (l4 : K.lookup f4 = some ⟨oc4, od4, .func (PySem.W.fnOf "_table_error" "_table_error" (defArgs s_tableerror) (defBody s_tableerror) (defScope s_tableerror) .none kV4 dc4 pm4 an4 cd4 ct4), sl4⟩) (c4 : PySem.W.codeIn K cd4 "_table_error" = true) (k4 : PySem.W.keepIn K (.ref f4) = true)
    (a5 : PySem.W.nsIn K mainGlobals "_is_form" = some (some (.ref f5))) (l5 : K.lookup f5 = some ⟨oc5, od5, .func (PySem.W.fnOf "_is_form" "_is_form" (defArgs s_isform) (defBody s_isform) (defScope s_isform) .none kV5 dc5 pm5 an5 cd5 ct5), sl5⟩) (c5 : PySem.W.codeIn K cd5 "_is_form" = true) (k5 : PySem.W.keepIn K (.ref f5) = true)
    (a6 : PySem.W.nsIn K mainGlobals "_is_early" = some (some (.ref f6))) (l6 : K.lookup f6 = some ⟨oc6, od6, .func (PySem.W.fnOf "_is_early" "_is_early" (defArgs s_isearly) (defBody s_isearly) (defScope s_isearly) .none kV6 dc6 pm6 an6 cd6 ct6), sl6⟩) (c6 : PySem.W.codeIn K cd6 "_is_early" = true) (k6 : PySem.W.keepIn K (.ref f6) = true)
    (a7 : PySem.W.nsIn K mainGlobals "others_of" = some (some (.ref f7))) (l7 : K.lookup f7 = some ⟨oc7, od7, .func (PySem.W.fnOf "others_of" "others_of" (defArgs s_othersof) (defBody s_othersof) (defScope s_othersof) .none kV7 dc7 pm7 an7 cd7 ct7), sl7⟩) (c7 : PySem.W.codeIn K cd7 "others_of" = true) (k7 : PySem.W.keepIn K (.ref f7) = true)
    (a8 : PySem.W.nsIn K mainGlobals "_is_order" = some (some (.ref f8))) (l8 : K.lookup f8 = some ⟨oc8, od8, .func (PySem.W.fnOf "_is_order" "_is_order" (defArgs s_isorder) (defBody s_isorder) (defScope s_isorder) .none kV8 dc8 pm8 an8 cd8 ct8), sl8⟩) (c8 : PySem.W.codeIn K cd8 "_is_order" = true) (k8 : PySem.W.keepIn K (.ref f8) = true)
    (a9 : PySem.W.nsIn K mainGlobals "manners_error" = some (some (.ref f9))) (l9 : K.lookup f9 = some ⟨oc9, od9, .func (PySem.W.fnOf "manners_error" "manners_error" (defArgs s_mannerserror) (defBody s_mannerserror) (defScope s_mannerserror) .none kV9 dc9 pm9 an9 cd9 ct9), sl9⟩) (c9 : PySem.W.codeIn K cd9 "manners_error" = true) (k9 : PySem.W.keepIn K (.ref f9) = true)
    (a10 : PySem.W.nsIn K mainGlobals "rising_orders" = some (some (.ref f10))) (l10 : K.lookup f10 = some ⟨oc10, od10, .func (PySem.W.fnOf "rising_orders" "rising_orders" (defArgs s_risingorders) (defBody s_risingorders) (defScope s_risingorders) .none kV10 dc10 pm10 an10 cd10 ct10), sl10⟩) (c10 : PySem.W.codeIn K cd10 "rising_orders" = true) (k10 : PySem.W.keepIn K (.ref f10) = true)
    (e10 : cd10 = .ref q10) (v10 : K.lookup q10 = some ⟨oq10, dq10, .fields vq10, sq10⟩) (p10 : (vq10[11]? : Option Value) = some (.ref P10)) (n10 : K.lookup P10 = none) (d10 : PySem.W.codeHdIn K q10 P10 = true) (r10 : (recsOf Q).find? (fun e : DefRec => e.name == ("rising_orders" : Str)) = some dd10)
    (a11 : PySem.W.nsIn K mainGlobals "even_pairs" = some (some (.ref f11))) (l11 : K.lookup f11 = some ⟨oc11, od11, .func (PySem.W.fnOf "even_pairs" "even_pairs" (defArgs s_evenpairs) (defBody s_evenpairs) (defScope s_evenpairs) .none kV11 dc11 pm11 an11 cd11 ct11), sl11⟩) (c11 : PySem.W.codeIn K cd11 "even_pairs" = true) (k11 : PySem.W.keepIn K (.ref f11) = true)
    (e11 : cd11 = .ref q11) (v11 : K.lookup q11 = some ⟨oq11, dq11, .fields vq11, sq11⟩) (p11 : (vq11[11]? : Option Value) = some (.ref P11)) (n11 : K.lookup P11 = none) (d11 : PySem.W.codeHdIn K q11 P11 = true) (r11 : (recsOf Q).find? (fun e : DefRec => e.name == ("even_pairs" : Str)) = some dd11)
    (a12 : PySem.W.nsIn K mainGlobals "_rings_from" = some (some (.ref f12))) (l12 : K.lookup f12 = some ⟨oc12, od12, .func (PySem.W.fnOf "_rings_from" "_rings_from" (defArgs s_ringsfrom) (defBody s_ringsfrom) (defScope s_ringsfrom) .none kV12 dc12 pm12 an12 cd12 ct12), sl12⟩) (c12 : PySem.W.codeIn K cd12 "_rings_from" = true) (k12 : PySem.W.keepIn K (.ref f12) = true)
    (a13 : PySem.W.nsIn K mainGlobals "_rings" = some (some (.ref f13))) (l13 : K.lookup f13 = some ⟨oc13, od13, .func (PySem.W.fnOf "_rings" "_rings" (defArgs s_rings) (defBody s_rings) (defScope s_rings) .none kV13 dc13 pm13 an13 cd13 ct13), sl13⟩) (c13 : PySem.W.codeIn K cd13 "_rings" = true) (k13 : PySem.W.keepIn K (.ref f13) = true)
    (a14 : PySem.W.nsIn K mainGlobals "least_ring" = some (some (.ref f14))) (l14 : K.lookup f14 = some ⟨oc14, od14, .func (PySem.W.fnOf "least_ring" "least_ring" (defArgs s_leastring) (defBody s_leastring) (defScope s_leastring) .none kV14 dc14 pm14 an14 cd14 ct14), sl14⟩) (c14 : PySem.W.codeIn K cd14 "least_ring" = true) (k14 : PySem.W.keepIn K (.ref f14) = true)
    (a15 : PySem.W.nsIn K mainGlobals "_followers" = some (some (.ref f15))) (l15 : K.lookup f15 = some ⟨oc15, od15, .func (PySem.W.fnOf "_followers" "_followers" (defArgs s_followers) (defBody s_followers) (defScope s_followers) .none kV15 dc15 pm15 an15 cd15 ct15), sl15⟩) (c15 : PySem.W.codeIn K cd15 "_followers" = true) (k15 : PySem.W.keepIn K (.ref f15) = true)
    (a16 : PySem.W.nsIn K mainGlobals "bow_ring" = some (some (.ref f16))) (l16 : K.lookup f16 = some ⟨oc16, od16, .func (PySem.W.fnOf "bow_ring" "bow_ring" (defArgs s_bowring) (defBody s_bowring) (defScope s_bowring) .none kV16 dc16 pm16 an16 cd16 ct16), sl16⟩) (c16 : PySem.W.codeIn K cd16 "bow_ring" = true) (k16 : PySem.W.keepIn K (.ref f16) = true)
    (a17 : PySem.W.nsIn K mainGlobals "first_three" = some (some (.ref f17))) (l17 : K.lookup f17 = some ⟨oc17, od17, .func (PySem.W.fnOf "first_three" "first_three" (defArgs s_firstthree) (defBody s_firstthree) (defScope s_firstthree) .none kV17 dc17 pm17 an17 cd17 ct17), sl17⟩) (c17 : PySem.W.codeIn K cd17 "first_three" = true) (k17 : PySem.W.keepIn K (.ref f17) = true)
    (a18 : PySem.W.nsIn K mainGlobals "manners_of" = some (some (.ref f18))) (l18 : K.lookup f18 = some ⟨oc18, od18, .func (PySem.W.fnOf "manners_of" "manners_of" (defArgs s_mannersof) (defBody s_mannersof) (defScope s_mannersof) .none kV18 dc18 pm18 an18 cd18 ct18), sl18⟩) (c18 : PySem.W.codeIn K cd18 "manners_of" = true) (k18 : PySem.W.keepIn K (.ref f18) = true)
    (a19 : PySem.W.nsIn K mainGlobals "is_plain" = some (some (.ref f19))) (l19 : K.lookup f19 = some ⟨oc19, od19, .func (PySem.W.fnOf "is_plain" "is_plain" (defArgs s_isplain) (defBody s_isplain) (defScope s_isplain) .none kV19 dc19 pm19 an19 cd19 ct19), sl19⟩) (c19 : PySem.W.codeIn K cd19 "is_plain" = true) (k19 : PySem.W.keepIn K (.ref f19) = true)
    (a20 : PySem.W.nsIn K mainGlobals "hurdle" = some (some (.ref f20))) (l20 : K.lookup f20 = some ⟨oc20, od20, .func (PySem.W.fnOf "hurdle" "hurdle" (defArgs s_hurdle) (defBody s_hurdle) (defScope s_hurdle) .none kV20 dc20 pm20 an20 cd20 ct20), sl20⟩) (c20 : PySem.W.codeIn K cd20 "hurdle" = true) (k20 : PySem.W.keepIn K (.ref f20) = true)
    (a21 : PySem.W.nsIn K mainGlobals "_law_bag" = some (some (.ref f21))) (l21 : K.lookup f21 = some ⟨oc21, od21, .func (PySem.W.fnOf "_law_bag" "_law_bag" (defArgs s_lawbag) (defBody s_lawbag) (defScope s_lawbag) .none kV21 dc21 pm21 an21 cd21 ct21), sl21⟩) (c21 : PySem.W.codeIn K cd21 "_law_bag" = true) (k21 : PySem.W.keepIn K (.ref f21) = true)
    (a22 : PySem.W.nsIn K mainGlobals "_law_draw" = some (some (.ref f22))) (l22 : K.lookup f22 = some ⟨oc22, od22, .func (PySem.W.fnOf "_law_draw" "_law_draw" (defArgs s_lawdraw) (defBody s_lawdraw) (defScope s_lawdraw) .none kV22 dc22 pm22 an22 cd22 ct22), sl22⟩) (c22 : PySem.W.codeIn K cd22 "_law_draw" = true) (k22 : PySem.W.keepIn K (.ref f22) = true)
    (a23 : PySem.W.nsIn K mainGlobals "_law_pick" = some (some (.ref f23))) (l23 : K.lookup f23 = some ⟨oc23, od23, .func (PySem.W.fnOf "_law_pick" "_law_pick" (defArgs s_lawpick) (defBody s_lawpick) (defScope s_lawpick) .none kV23 dc23 pm23 an23 cd23 ct23), sl23⟩) (c23 : PySem.W.codeIn K cd23 "_law_pick" = true) (k23 : PySem.W.keepIn K (.ref f23) = true)
    (a24 : PySem.W.nsIn K mainGlobals "_law_mixed" = some (some (.ref f24))) (l24 : K.lookup f24 = some ⟨oc24, od24, .func (PySem.W.fnOf "_law_mixed" "_law_mixed" (defArgs s_lawmixed) (defBody s_lawmixed) (defScope s_lawmixed) .none kV24 dc24 pm24 an24 cd24 ct24), sl24⟩) (c24 : PySem.W.codeIn K cd24 "_law_mixed" = true) (k24 : PySem.W.keepIn K (.ref f24) = true)
    (a25 : PySem.W.nsIn K mainGlobals "_law_rows" = some (some (.ref f25))) (l25 : K.lookup f25 = some ⟨oc25, od25, .func (PySem.W.fnOf "_law_rows" "_law_rows" (defArgs s_lawrows) (defBody s_lawrows) (defScope s_lawrows) .none kV25 dc25 pm25 an25 cd25 ct25), sl25⟩) (c25 : PySem.W.codeIn K cd25 "_law_rows" = true) (k25 : PySem.W.keepIn K (.ref f25) = true)
    (a26 : PySem.W.nsIn K mainGlobals "_law_table" = some (some (.ref f26))) (l26 : K.lookup f26 = some ⟨oc26, od26, .func (PySem.W.fnOf "_law_table" "_law_table" (defArgs s_lawtable) (defBody s_lawtable) (defScope s_lawtable) .none kV26 dc26 pm26 an26 cd26 ct26), sl26⟩) (c26 : PySem.W.codeIn K cd26 "_law_table" = true) (k26 : PySem.W.keepIn K (.ref f26) = true)
    (a27 : PySem.W.nsIn K mainGlobals "_law_ranked" = some (some (.ref f27))) (l27 : K.lookup f27 = some ⟨oc27, od27, .func (PySem.W.fnOf "_law_ranked" "_law_ranked" (defArgs s_lawranked) (defBody s_lawranked) (defScope s_lawranked) .none kV27 dc27 pm27 an27 cd27 ct27), sl27⟩) (c27 : PySem.W.codeIn K cd27 "_law_ranked" = true) (k27 : PySem.W.keepIn K (.ref f27) = true)
    (a28 : PySem.W.nsIn K mainGlobals "_law_with" = some (some (.ref f28))) (l28 : K.lookup f28 = some ⟨oc28, od28, .func (PySem.W.fnOf "_law_with" "_law_with" (defArgs s_lawwith) (defBody s_lawwith) (defScope s_lawwith) .none kV28 dc28 pm28 an28 cd28 ct28), sl28⟩) (c28 : PySem.W.codeIn K cd28 "_law_with" = true) (k28 : PySem.W.keepIn K (.ref f28) = true)
    (a29 : PySem.W.nsIn K mainGlobals "_law_turned" = some (some (.ref f29))) (l29 : K.lookup f29 = some ⟨oc29, od29, .func (PySem.W.fnOf "_law_turned" "_law_turned" (defArgs s_lawturned) (defBody s_lawturned) (defScope s_lawturned) .none kV29 dc29 pm29 an29 cd29 ct29), sl29⟩) (c29 : PySem.W.codeIn K cd29 "_law_turned" = true) (k29 : PySem.W.keepIn K (.ref f29) = true)
    (a30 : PySem.W.nsIn K mainGlobals "_law_plain" = some (some (.ref f30))) (l30 : K.lookup f30 = some ⟨oc30, od30, .func (PySem.W.fnOf "_law_plain" "_law_plain" (defArgs s_lawplain) (defBody s_lawplain) (defScope s_lawplain) .none kV30 dc30 pm30 an30 cd30 ct30), sl30⟩) (c30 : PySem.W.codeIn K cd30 "_law_plain" = true) (k30 : PySem.W.keepIn K (.ref f30) = true)
    (a31 : PySem.W.nsIn K mainGlobals "_law_bow_ring" = some (some (.ref f31))) (l31 : K.lookup f31 = some ⟨oc31, od31, .func (PySem.W.fnOf "_law_bow_ring" "_law_bow_ring" (defArgs s_lawbowring) (defBody s_lawbowring) (defScope s_lawbowring) .none kV31 dc31 pm31 an31 cd31 ct31), sl31⟩) (c31 : PySem.W.codeIn K cd31 "_law_bow_ring" = true) (k31 : PySem.W.keepIn K (.ref f31) = true)
    (a32 : PySem.W.nsIn K mainGlobals "_law_hurdle" = some (some (.ref f32))) (l32 : K.lookup f32 = some ⟨oc32, od32, .func (PySem.W.fnOf "_law_hurdle" "_law_hurdle" (defArgs s_lawhurdle) (defBody s_lawhurdle) (defScope s_lawhurdle) .none kV32 dc32 pm32 an32 cd32 ct32), sl32⟩) (c32 : PySem.W.codeIn K cd32 "_law_hurdle" = true) (k32 : PySem.W.keepIn K (.ref f32) = true)
    (a33 : PySem.W.nsIn K mainGlobals "_law_like" = some (some (.ref f33))) (l33 : K.lookup f33 = some ⟨oc33, od33, .func (PySem.W.fnOf "_law_like" "_law_like" (defArgs s_lawlike) (defBody s_lawlike) (defScope s_lawlike) .none kV33 dc33 pm33 an33 cd33 ct33), sl33⟩) (c33 : PySem.W.codeIn K cd33 "_law_like" = true) (k33 : PySem.W.keepIn K (.ref f33) = true)
    (a34 : PySem.W.nsIn K mainGlobals "law" = some (some (.ref f34))) (l34 : K.lookup f34 = some ⟨oc34, od34, .func (PySem.W.fnOf "law" "law" (defArgs s_law) (defBody s_law) (defScope s_law) .none kV34 dc34 pm34 an34 cd34 ct34), sl34⟩) (c34 : PySem.W.codeIn K cd34 "law" = true) (k34 : PySem.W.keepIn K (.ref f34) = true) (z_abs : PySem.W.nsIn K mainGlobals "abs" = some none) (z_all : PySem.W.nsIn K mainGlobals "all" = some none) (z_bool : PySem.W.nsIn K mainGlobals "bool" = some none) (z_enumerate : PySem.W.nsIn K mainGlobals "enumerate" = some none) (z_int : PySem.W.nsIn K mainGlobals "int" = some none) (z_isinstance : PySem.W.nsIn K mainGlobals "isinstance" = some none) (z_len : PySem.W.nsIn K mainGlobals "len" = some none) (z_list : PySem.W.nsIn K mainGlobals "list" = some none) (z_min : PySem.W.nsIn K mainGlobals "min" = some none) (z_range : PySem.W.nsIn K mainGlobals "range" = some none) (z_sorted : PySem.W.nsIn K mainGlobals "sorted" = some none) (z_str : PySem.W.nsIn K mainGlobals "str" = some none) (z_tuple : PySem.W.nsIn K mainGlobals "tuple" = some none) (z_zip : PySem.W.nsIn K mainGlobals "zip" = some none)
    {gP_LOTS : Addr} {go_LOTS : Option Addr} {gi_LOTS : Array Value} {gn_LOTS : Nat} {gl_LOTS : Array (Option Value)} {gv_LOTS : List V} (g_LOTS : PySem.W.nsIn K mainGlobals "LOTS" = some (some (.ref gP_LOTS))) (gk_LOTS : K.lookup gP_LOTS = some ⟨.type "tuple", go_LOTS, .seq gi_LOTS gn_LOTS, gl_LOTS⟩) (gs_LOTS : gi_LOTS.size ≤ sizeLine) (gf_LOTS : flatVs gi_LOTS.toList = some (gv_LOTS, [.str ("bow" : Str), .str ("even" : Str), .str ("stand" : Str)]))
    {gt_MAX_HANDS : Tok} (g_MAX_HANDS : PySem.W.nsIn K mainGlobals "MAX_HANDS" = some (some (.int 6 gt_MAX_HANDS)))
    {gP_WORDS : Addr} {go_WORDS : Option Addr} {gi_WORDS : Array Value} {gn_WORDS : Nat} {gl_WORDS : Array (Option Value)} {gv_WORDS : List V} (g_WORDS : PySem.W.nsIn K mainGlobals "WORDS" = some (some (.ref gP_WORDS))) (gk_WORDS : K.lookup gP_WORDS = some ⟨.type "tuple", go_WORDS, .seq gi_WORDS gn_WORDS, gl_WORDS⟩) (gs_WORDS : gi_WORDS.size ≤ sizeLine) (gf_WORDS : flatVs gi_WORDS.toList = some (gv_WORDS, [.str ("stand" : Str), .str ("bow" : Str), .str ("even" : Str), .str ("pass" : Str), .str ("slip" : Str)])) :
    LawG PySem.Challenge.rw_bowstands_k63_whole_hurdles w K 14 63 "script" mg fa h := by
  have e := hfa.symm.trans (PySem.W.mg_of X G a34)
  cases e
  have F1 := fun_mk (st := s_iswhole) l1 c1 k1
  have b1 := F1.binds (ps := ["value"]) fun _ _ _ _ _ _ us hl => match us, hl with | [_], _ => rfl
  have F2 := fun_mk (st := s_ishand) l2 c2 k2
  have b2 := F2.binds (ps := ["value", "many"]) fun _ _ _ _ _ _ us hl => match us, hl with | [_, _], _ => rfl
  have F3 := fun_mk (st := s_isrow) l3 c3 k3
  have b3 := F3.binds (ps := ["row", "hand", "many"]) fun _ _ _ _ _ _ us hl => match us, hl with | [_, _, _], _ => rfl
  have F4 := fun_mk (st := s_tableerror) l4 c4 k4
  have b4 := F4.binds (ps := ["table"]) fun _ _ _ _ _ _ us hl => match us, hl with | [_], _ => rfl
  have F5 := fun_mk (st := s_isform) l5 c5 k5
  have b5 := F5.binds (ps := ["value"]) fun _ _ _ _ _ _ us hl => match us, hl with | [_], _ => rfl
  have F6 := fun_mk (st := s_isearly) l6 c6 k6
  have b6 := F6.binds (ps := ["early", "many"]) fun _ _ _ _ _ _ us hl => match us, hl with | [_, _], _ => rfl
  have F7 := fun_mk (st := s_othersof) l7 c7 k7
  have b7 := F7.binds (ps := ["hand", "many"]) fun _ _ _ _ _ _ us hl => match us, hl with | [_, _], _ => rfl
  have F8 := fun_mk (st := s_isorder) l8 c8 k8
  have b8 := F8.binds (ps := ["order", "hand", "many"]) fun _ _ _ _ _ _ us hl => match us, hl with | [_, _, _], _ => rfl
  have F9 := fun_mk (st := s_mannerserror) l9 c9 k9
  have b9 := F9.binds (ps := ["value"]) fun _ _ _ _ _ _ us hl => match us, hl with | [_], _ => rfl
  have F10 := fun_mk (st := s_risingorders) l10 c10 k10
  have b10 := F10.binds (ps := ["many"]) fun _ _ _ _ _ _ us hl => match us, hl with | [_], _ => rfl
  have F11 := fun_mk (st := s_evenpairs) l11 c11 k11
  have b11 := F11.binds (ps := ["manners"]) fun _ _ _ _ _ _ us hl => match us, hl with | [_], _ => rfl
  have F12 := fun_mk (st := s_ringsfrom) l12 c12 k12
  have b12 := F12.binds (ps := ["followers", "path"]) fun _ _ _ _ _ _ us hl => match us, hl with | [_, _], _ => rfl
  have F13 := fun_mk (st := s_rings) l13 c13 k13
  have b13 := F13.binds (ps := ["followers"]) fun _ _ _ _ _ _ us hl => match us, hl with | [_], _ => rfl
  have F14 := fun_mk (st := s_leastring) l14 c14 k14
  have b14 := F14.binds (ps := ["followers"]) fun _ _ _ _ _ _ us hl => match us, hl with | [_], _ => rfl
  have F15 := fun_mk (st := s_followers) l15 c15 k15
  have b15 := F15.binds (ps := ["manners", "words"]) fun _ _ _ _ _ _ us hl => match us, hl with | [_, _], _ => rfl
  have F16 := fun_mk (st := s_bowring) l16 c16 k16
  have b16 := F16.binds (ps := ["manners"]) fun _ _ _ _ _ _ us hl => match us, hl with | [_], _ => rfl
  have F17 := fun_mk (st := s_firstthree) l17 c17 k17
  have b17 := F17.binds (ps := ["many", "pairs"]) fun _ _ _ _ _ _ us hl => match us, hl with | [_, _], _ => rfl
  have F18 := fun_mk (st := s_mannersof) l18 c18 k18
  have b18 := F18.binds (ps := ["table"]) fun _ _ _ _ _ _ us hl => match us, hl with | [_], _ => rfl
  have F19 := fun_mk (st := s_isplain) l19 c19 k19
  have b19 := F19.binds (ps := ["value"]) fun _ _ _ _ _ _ us hl => match us, hl with | [_], _ => rfl
  have F20 := fun_mk (st := s_hurdle) l20 c20 k20
  have b20 := F20.binds (ps := ["table"]) fun _ _ _ _ _ _ us hl => match us, hl with | [_], _ => rfl
  have F21 := fun_mk (st := s_lawbag) l21 c21 k21
  have b21 := F21.binds (ps := ["script"]) fun _ _ _ _ _ _ us hl => match us, hl with | [_], _ => rfl
  have F22 := fun_mk (st := s_lawdraw) l22 c22 k22
  have b22 := F22.binds (ps := ["bag", "many"]) fun _ _ _ _ _ _ us hl => match us, hl with | [_, _], _ => rfl
  have F23 := fun_mk (st := s_lawpick) l23 c23 k23
  have b23 := F23.binds (ps := ["bag", "some"]) fun _ _ _ _ _ _ us hl => match us, hl with | [_, _], _ => rfl
  have F24 := fun_mk (st := s_lawmixed) l24 c24 k24
  have b24 := F24.binds (ps := ["bag", "some"]) fun _ _ _ _ _ _ us hl => match us, hl with | [_, _], _ => rfl
  have F25 := fun_mk (st := s_lawrows) l25 c25 k25
  have b25 := F25.binds (ps := ["table"]) fun _ _ _ _ _ _ us hl => match us, hl with | [_], _ => rfl
  have F26 := fun_mk (st := s_lawtable) l26 c26 k26
  have b26 := F26.binds (ps := ["bag", "hands", "menu", "many"]) fun _ _ _ _ _ _ us hl => match us, hl with | [_, _, _, _], _ => rfl
  have F27 := fun_mk (st := s_lawranked) l27 c27 k27
  have b27 := F27.binds (ps := ["bag", "hands", "many"]) fun _ _ _ _ _ _ us hl => match us, hl with | [_, _, _], _ => rfl
  have F28 := fun_mk (st := s_lawwith) l28 c28 k28
  have b28 := F28.binds (ps := ["table", "own", "mate", "deals"]) fun _ _ _ _ _ _ us hl => match us, hl with | [_, _, _, _], _ => rfl
  have F29 := fun_mk (st := s_lawturned) l29 c29 k29
  have b29 := F29.binds (ps := ["bag", "table", "many"]) fun _ _ _ _ _ _ us hl => match us, hl with | [_, _, _], _ => rfl
  have F30 := fun_mk (st := s_lawplain) l30 c30 k30
  have b30 := F30.binds (ps := ["bag", "hands"]) fun _ _ _ _ _ _ us hl => match us, hl with | [_, _], _ => rfl
  have F31 := fun_mk (st := s_lawbowring) l31 c31 k31
  have b31 := F31.binds (ps := ["table"]) fun _ _ _ _ _ _ us hl => match us, hl with | [_], _ => rfl
  have F32 := fun_mk (st := s_lawhurdle) l32 c32 k32
  have b32 := F32.binds (ps := ["table"]) fun _ _ _ _ _ _ us hl => match us, hl with | [_], _ => rfl
  have F33 := fun_mk (st := s_lawlike) l33 c33 k33
  have b33 := F33.binds (ps := ["value", "due"]) fun _ _ _ _ _ _ us hl => match us, hl with | [_, _], _ => rfl
  have F34 := fun_mk (st := s_law) l34 c34 k34
  have b34 := F34.binds (ps := ["script"]) fun _ _ _ _ _ _ us hl => match us, hl with | [_], _ => rfl
  have t10 : h.get? P10 = some tab0 := tabs _ _ _ _ r10 (tab_in a10 l10 e10 v10 p10)
  have t11 : h.get? P11 = some tab0 := tabs _ _ _ _ r11 (tab_in a11 l11 e11 v11 p11)
  refine ⟨kt, PySem.W.fnOf "law" "law" (defArgs s_law) (defBody s_law) (defScope s_law) .none kV34 dc34 pm34 an34 cd34 ct34, [(q10, P10), (q11, P11)], fn_law, ?_, fun s v => .of_eq rfl, law_data, fun base KB GB TB => ?_⟩
  · intro p hp
    simp only [List.mem_cons, List.not_mem_nil, or_false] at hp
    rcases hp with rfl | rfl
    · exact ⟨t10, n10, d10⟩
    · exact ⟨t11, n11, d11⟩
  have C_iswhole : Cal (PySem.Challenge.pw_bowstands_k63_whole_hurdles) w K mg base [P10, P11] 1 "is_whole" s_iswhole ["value"] fn_iswhole := cal_of (N := ["value"]) (b := d_iswhole) F1 (PySem.W.mg_of X G a1) sc_iswhole b1 (fun cdv A outer s H E hcd hA hR => ok_iswhole (PySem.W.mg_none_of X G z_bool) (PySem.W.mg_none_of X G z_int) (PySem.W.mg_none_of X G z_isinstance) cdv A outer s H E hA hR)
  have C_ishand : Cal (PySem.Challenge.pw_bowstands_k63_whole_hurdles) w K mg base [P10, P11] 2 "is_hand" s_ishand ["value", "many"] fn_ishand := cal_of (N := ["value", "many"]) (b := d_ishand) F2 (PySem.W.mg_of X G a2) sc_ishand b2 (fun cdv A outer s H E hcd hA hR => ok_ishand C_iswhole cdv A outer s H E hA hR)
  have C_isrow : Cal (PySem.Challenge.pw_bowstands_k63_whole_hurdles) w K mg base [P10, P11] 1 "_is_row" s_isrow ["row", "hand", "many"] fn_isrow := cal_of (N := ["row", "hand", "many", "others", "word"]) (b := d_isrow) F3 (PySem.W.mg_of X G a3) sc_isrow b3 (fun cdv A outer s H E hcd hA hR => ok_isrow (PySem.W.mg_none_of X G z_all) (PySem.W.mg_none_of X G z_isinstance) (PySem.W.mg_none_of X G z_len) (PySem.W.mg_none_of X G z_tuple) (PySem.W.mg_of X G g_WORDS) gk_WORDS gs_WORDS gf_WORDS cdv A outer s H E hA hR)
  have C_tableerror : Cal (PySem.Challenge.pw_bowstands_k63_whole_hurdles) w K mg base [P10, P11] 2 "_table_error" s_tableerror ["table"] fn_tableerror := cal_of (N := ["table", "many", "hand", "one", "other"]) (b := d_tableerror) F4 (PySem.W.mg_of X G a4) sc_tableerror b4 (fun cdv A outer s H E hcd hA hR => ok_tableerror (PySem.W.mg_none_of X G z_len) (PySem.W.mg_none_of X G z_range) C_isrow cdv A outer s H E hA hR)
  have C_isform : Cal (PySem.Challenge.pw_bowstands_k63_whole_hurdles) w K mg base [P10, P11] 1 "_is_form" s_isform ["value"] fn_isform := cal_of (N := ["value", "part"]) (b := d_isform) F5 (PySem.W.mg_of X G a5) sc_isform b5 (fun cdv A outer s H E hcd hA hR => ok_isform (PySem.W.mg_none_of X G z_all) (PySem.W.mg_none_of X G z_isinstance) (PySem.W.mg_none_of X G z_len) (PySem.W.mg_none_of X G z_tuple) cdv A outer s H E hA hR)
  have C_isearly : Cal (PySem.Challenge.pw_bowstands_k63_whole_hurdles) w K mg base [P10, P11] 3 "_is_early" s_isearly ["early", "many"] fn_isearly := cal_of (N := ["early", "many", "hand", "place"]) (b := d_isearly) F6 (PySem.W.mg_of X G a6) sc_isearly b6 (fun cdv A outer s H E hcd hA hR => ok_isearly (PySem.W.mg_none_of X G z_all) (PySem.W.mg_none_of X G z_len) (PySem.W.mg_none_of X G z_range) C_ishand cdv A outer s H E hA hR)
  have C_othersof : Cal (PySem.Challenge.pw_bowstands_k63_whole_hurdles) w K mg base [P10, P11] 1 "others_of" s_othersof ["hand", "many"] fn_othersof := cal_of (N := ["hand", "many", "other"]) (b := d_othersof) F7 (PySem.W.mg_of X G a7) sc_othersof b7 (fun cdv A outer s H E hcd hA hR => ok_othersof (PySem.W.mg_none_of X G z_range) cdv A outer s H E hA hR)
  have C_isorder : Cal (PySem.Challenge.pw_bowstands_k63_whole_hurdles) w K mg base [P10, P11] 3 "_is_order" s_isorder ["order", "hand", "many"] fn_isorder := cal_of (N := ["order", "hand", "many", "other"]) (b := d_isorder) F8 (PySem.W.mg_of X G a8) sc_isorder b8 (fun cdv A outer s H E hcd hA hR => ok_isorder (PySem.W.mg_none_of X G z_all) (PySem.W.mg_none_of X G z_isinstance) (PySem.W.mg_none_of X G z_sorted) (PySem.W.mg_none_of X G z_tuple) C_othersof C_ishand cdv A outer s H E hA hR)
  have C_mannerserror : Cal (PySem.Challenge.pw_bowstands_k63_whole_hurdles) w K mg base [P10, P11] 4 "manners_error" s_mannerserror ["value"] fn_mannerserror := cal_of (N := ["value", "table", "orders", "early", "many", "wrong", "hand"]) (b := d_mannerserror) F9 (PySem.W.mg_of X G a9) sc_mannerserror b9 (fun cdv A outer s H E hcd hA hR => ok_mannerserror (PySem.W.mg_none_of X G z_len) (PySem.W.mg_none_of X G z_range) (PySem.W.mg_of X G g_MAX_HANDS) C_isearly C_isorder C_tableerror C_isform cdv A outer s H E hA hR)
  have C_risingorders : Cal (PySem.Challenge.pw_bowstands_k63_whole_hurdles) w K mg base [P10, P11] 7 "rising_orders" s_risingorders ["many"] fn_risingorders := cal_of (N := ["many"]) (b := d_risingorders) F10 (PySem.W.mg_of X G a10) sc_risingorders b10 (fun cdv A outer s H E hcd hA hR => ok_risingorders (PySem.W.mg_none_of X G z_range) (PySem.W.mg_none_of X G z_tuple) C_othersof (TB _ (.head _)) (.head _) cdv A outer s H E (hcd.symm.trans e10) hA hR)
  have C_evenpairs : Cal (PySem.Challenge.pw_bowstands_k63_whole_hurdles) w K mg base [P10, P11] 6 "even_pairs" s_evenpairs ["manners"] fn_evenpairs := cal_of (N := ["manners", "table", "many"]) (b := d_evenpairs) F11 (PySem.W.mg_of X G a11) sc_evenpairs b11 (fun cdv A outer s H E hcd hA hR => ok_evenpairs (PySem.W.mg_none_of X G z_len) (PySem.W.mg_none_of X G z_range) (PySem.W.mg_none_of X G z_tuple) (TB _ (.tail _ (.head _))) (.tail _ (.head _)) cdv A outer s H E (hcd.symm.trans e11) hA hR)
  have C_ringsfrom_0 : Cal (PySem.Challenge.pw_bowstands_k63_whole_hurdles) w K mg base [P10, P11] 1 "_rings_from" s_ringsfrom ["followers", "path"] (fN_ringsfrom 0) := cal_of (N := ["followers", "path", "found", "other"]) (b := dsNo) F12 (PySem.W.mg_of X G a12) sc_ringsfrom b12 (fun cdv A outer s H E hcd hA hR => pss_no)
  have C_ringsfrom_1 : Cal (PySem.Challenge.pw_bowstands_k63_whole_hurdles) w K mg base [P10, P11] 2 "_rings_from" s_ringsfrom ["followers", "path"] (fN_ringsfrom 1) := cal_of (N := ["followers", "path", "found", "other"]) (b := d_ringsfrom (fN_ringsfrom 0)) F12 (PySem.W.mg_of X G a12) sc_ringsfrom b12 (fun cdv A outer s H E hcd hA hR => ok_ringsfrom C_ringsfrom_0 cdv A outer s H E hA hR)
  have C_ringsfrom_2 : Cal (PySem.Challenge.pw_bowstands_k63_whole_hurdles) w K mg base [P10, P11] 3 "_rings_from" s_ringsfrom ["followers", "path"] (fN_ringsfrom 2) := cal_of (N := ["followers", "path", "found", "other"]) (b := d_ringsfrom (fN_ringsfrom 1)) F12 (PySem.W.mg_of X G a12) sc_ringsfrom b12 (fun cdv A outer s H E hcd hA hR => ok_ringsfrom C_ringsfrom_1 cdv A outer s H E hA hR)
  have C_ringsfrom_3 : Cal (PySem.Challenge.pw_bowstands_k63_whole_hurdles) w K mg base [P10, P11] 4 "_rings_from" s_ringsfrom ["followers", "path"] (fN_ringsfrom 3) := cal_of (N := ["followers", "path", "found", "other"]) (b := d_ringsfrom (fN_ringsfrom 2)) F12 (PySem.W.mg_of X G a12) sc_ringsfrom b12 (fun cdv A outer s H E hcd hA hR => ok_ringsfrom C_ringsfrom_2 cdv A outer s H E hA hR)
  have C_ringsfrom_4 : Cal (PySem.Challenge.pw_bowstands_k63_whole_hurdles) w K mg base [P10, P11] 5 "_rings_from" s_ringsfrom ["followers", "path"] (fN_ringsfrom 4) := cal_of (N := ["followers", "path", "found", "other"]) (b := d_ringsfrom (fN_ringsfrom 3)) F12 (PySem.W.mg_of X G a12) sc_ringsfrom b12 (fun cdv A outer s H E hcd hA hR => ok_ringsfrom C_ringsfrom_3 cdv A outer s H E hA hR)
  have C_ringsfrom_5 : Cal (PySem.Challenge.pw_bowstands_k63_whole_hurdles) w K mg base [P10, P11] 6 "_rings_from" s_ringsfrom ["followers", "path"] (fN_ringsfrom 5) := cal_of (N := ["followers", "path", "found", "other"]) (b := d_ringsfrom (fN_ringsfrom 4)) F12 (PySem.W.mg_of X G a12) sc_ringsfrom b12 (fun cdv A outer s H E hcd hA hR => ok_ringsfrom C_ringsfrom_4 cdv A outer s H E hA hR)
  have C_ringsfrom_6 : Cal (PySem.Challenge.pw_bowstands_k63_whole_hurdles) w K mg base [P10, P11] 7 "_rings_from" s_ringsfrom ["followers", "path"] (fN_ringsfrom 6) := cal_of (N := ["followers", "path", "found", "other"]) (b := d_ringsfrom (fN_ringsfrom 5)) F12 (PySem.W.mg_of X G a12) sc_ringsfrom b12 (fun cdv A outer s H E hcd hA hR => ok_ringsfrom C_ringsfrom_5 cdv A outer s H E hA hR)
  have C_ringsfrom_7 : Cal (PySem.Challenge.pw_bowstands_k63_whole_hurdles) w K mg base [P10, P11] 8 "_rings_from" s_ringsfrom ["followers", "path"] (fN_ringsfrom 7) := cal_of (N := ["followers", "path", "found", "other"]) (b := d_ringsfrom (fN_ringsfrom 6)) F12 (PySem.W.mg_of X G a12) sc_ringsfrom b12 (fun cdv A outer s H E hcd hA hR => ok_ringsfrom C_ringsfrom_6 cdv A outer s H E hA hR)
  have C_ringsfrom_8 : Cal (PySem.Challenge.pw_bowstands_k63_whole_hurdles) w K mg base [P10, P11] 9 "_rings_from" s_ringsfrom ["followers", "path"] (fN_ringsfrom 8) := cal_of (N := ["followers", "path", "found", "other"]) (b := d_ringsfrom (fN_ringsfrom 7)) F12 (PySem.W.mg_of X G a12) sc_ringsfrom b12 (fun cdv A outer s H E hcd hA hR => ok_ringsfrom C_ringsfrom_7 cdv A outer s H E hA hR)
  have C_ringsfrom : Cal (PySem.Challenge.pw_bowstands_k63_whole_hurdles) w K mg base [P10, P11] 9 "_rings_from" s_ringsfrom ["followers", "path"] fn_ringsfrom := C_ringsfrom_8
  have C_rings : Cal (PySem.Challenge.pw_bowstands_k63_whole_hurdles) w K mg base [P10, P11] 10 "_rings" s_rings ["followers"] fn_rings := cal_of (N := ["followers", "hand", "ring"]) (b := d_rings) F13 (PySem.W.mg_of X G a13) sc_rings b13 (fun cdv A outer s H E hcd hA hR => ok_rings (PySem.W.mg_none_of X G z_len) (PySem.W.mg_none_of X G z_range) C_ringsfrom cdv A outer s H E hA hR)
  have C_leastring : Cal (PySem.Challenge.pw_bowstands_k63_whole_hurdles) w K mg base [P10, P11] 11 "least_ring" s_leastring ["followers"] fn_leastring := cal_of (N := ["followers", "rings", "ring"]) (b := d_leastring) F14 (PySem.W.mg_of X G a14) sc_leastring b14 (fun cdv A outer s H E hcd hA hR => ok_leastring (PySem.W.mg_none_of X G z_len) (PySem.W.mg_none_of X G z_min) C_rings cdv A outer s H E hA hR)
  have C_followers : Cal (PySem.Challenge.pw_bowstands_k63_whole_hurdles) w K mg base [P10, P11] 1 "_followers" s_followers ["manners", "words"] fn_followers := cal_of (N := ["manners", "words", "row", "other", "word"]) (b := d_followers) F15 (PySem.W.mg_of X G a15) sc_followers b15 (fun cdv A outer s H E hcd hA hR => ok_followers (PySem.W.mg_none_of X G z_enumerate) cdv A outer s H E hA hR)
  have C_bowring : Cal (PySem.Challenge.pw_bowstands_k63_whole_hurdles) w K mg base [P10, P11] 12 "bow_ring" s_bowring ["manners"] fn_bowring := cal_of (N := ["manners"]) (b := d_bowring) F16 (PySem.W.mg_of X G a16) sc_bowring b16 (fun cdv A outer s H E hcd hA hR => ok_bowring C_leastring C_followers cdv A outer s H E hA hR)
  have C_firstthree : Cal (PySem.Challenge.pw_bowstands_k63_whole_hurdles) w K mg base [P10, P11] 1 "first_three" s_firstthree ["many", "pairs"] fn_firstthree := cal_of (N := ["many", "pairs", "i", "j", "k"]) (b := d_firstthree) F17 (PySem.W.mg_of X G a17) sc_firstthree b17 (fun cdv A outer s H E hcd hA hR => ok_firstthree (PySem.W.mg_none_of X G z_range) cdv A outer s H E hA hR)
  have C_mannersof : Cal (PySem.Challenge.pw_bowstands_k63_whole_hurdles) w K mg base [P10, P11] 8 "manners_of" s_mannersof ["table"] fn_mannersof := cal_of (N := ["table"]) (b := d_mannersof) F18 (PySem.W.mg_of X G a18) sc_mannersof b18 (fun cdv A outer s H E hcd hA hR => ok_mannersof (PySem.W.mg_none_of X G z_len) C_risingorders cdv A outer s H E hA hR)
  have C_isplain : Cal (PySem.Challenge.pw_bowstands_k63_whole_hurdles) w K mg base [P10, P11] 9 "is_plain" s_isplain ["value"] fn_isplain := cal_of (N := ["value", "row", "word"]) (b := d_isplain) F19 (PySem.W.mg_of X G a19) sc_isplain b19 (fun cdv A outer s H E hcd hA hR => ok_isplain (PySem.W.mg_none_of X G z_all) (PySem.W.mg_none_of X G z_isinstance) (PySem.W.mg_none_of X G z_len) (PySem.W.mg_none_of X G z_tuple) (PySem.W.mg_of X G g_LOTS) gk_LOTS gs_LOTS gf_LOTS (PySem.W.mg_of X G g_MAX_HANDS) C_mannerserror C_mannersof cdv A outer s H E hA hR)
  have C_hurdle : Cal (PySem.Challenge.pw_bowstands_k63_whole_hurdles) w K mg base [P10, P11] 13 "hurdle" s_hurdle ["table"] fn_hurdle := cal_of (N := ["table", "manners", "bows", "many", "i", "j", "three"]) (b := d_hurdle) F20 (PySem.W.mg_of X G a20) sc_hurdle b20 (fun cdv A outer s H E hcd hA hR => ok_hurdle (PySem.W.mg_none_of X G z_len) (PySem.W.mg_none_of X G z_range) C_firstthree C_evenpairs C_bowring C_mannersof C_isplain cdv A outer s H E hA hR)
  have C_lawbag : Cal (PySem.Challenge.pw_bowstands_k63_whole_hurdles) w K mg base [P10, P11] 1 "_law_bag" s_lawbag ["script"] fn_lawbag := cal_of (N := ["script", "stirred", "cell", "far"]) (b := d_lawbag) F21 (PySem.W.mg_of X G a21) sc_lawbag b21 (fun cdv A outer s H E hcd hA hR => ok_lawbag (PySem.W.mg_none_of X G z_abs) (PySem.W.mg_none_of X G z_int) (PySem.W.mg_none_of X G z_len) cdv A outer s H E hA hR)
  have C_lawdraw : Cal (PySem.Challenge.pw_bowstands_k63_whole_hurdles) w K mg base [P10, P11] 1 "_law_draw" s_lawdraw ["bag", "many"] fn_lawdraw := cal_of (N := ["bag", "many", "cell", "found"]) (b := d_lawdraw) F22 (PySem.W.mg_of X G a22) sc_lawdraw b22 (fun cdv A outer s H E hcd hA hR => ok_lawdraw (PySem.W.mg_none_of X G z_int) cdv A outer s H E hA hR)
  have C_lawpick : Cal (PySem.Challenge.pw_bowstands_k63_whole_hurdles) w K mg base [P10, P11] 2 "_law_pick" s_lawpick ["bag", "some"] fn_lawpick := cal_of (N := ["bag", "some"]) (b := d_lawpick) F23 (PySem.W.mg_of X G a23) sc_lawpick b23 (fun cdv A outer s H E hcd hA hR => ok_lawpick (PySem.W.mg_none_of X G z_len) C_lawdraw cdv A outer s H E hA hR)
  have C_lawmixed : Cal (PySem.Challenge.pw_bowstands_k63_whole_hurdles) w K mg base [P10, P11] 2 "_law_mixed" s_lawmixed ["bag", "some"] fn_lawmixed := cal_of (N := ["bag", "some", "left", "found", "turn"]) (b := d_lawmixed) F24 (PySem.W.mg_of X G a24) sc_lawmixed b24 (fun cdv A outer s H E hcd hA hR => ok_lawmixed (PySem.W.mg_none_of X G z_len) (PySem.W.mg_none_of X G z_list) (PySem.W.mg_none_of X G z_range) C_lawdraw cdv A outer s H E hA hR)
  have C_lawrows : Cal (PySem.Challenge.pw_bowstands_k63_whole_hurdles) w K mg base [P10, P11] 1 "_law_rows" s_lawrows ["table"] fn_lawrows := cal_of (N := ["table", "row"]) (b := d_lawrows) F25 (PySem.W.mg_of X G a25) sc_lawrows b25 (fun cdv A outer s H E hcd hA hR => ok_lawrows (PySem.W.mg_none_of X G z_list) cdv A outer s H E hA hR)
  have C_lawtable : Cal (PySem.Challenge.pw_bowstands_k63_whole_hurdles) w K mg base [P10, P11] 3 "_law_table" s_lawtable ["bag", "hands", "menu", "many"] fn_lawtable := cal_of (N := ["bag", "hands", "menu", "many", "rows", "own", "mate", "row"]) (b := d_lawtable) F26 (PySem.W.mg_of X G a26) sc_lawtable b26 (fun cdv A outer s H E hcd hA hR => ok_lawtable (PySem.W.mg_none_of X G z_range) (PySem.W.mg_none_of X G z_tuple) C_lawdraw C_lawpick cdv A outer s H E hA hR)
  have C_lawranked : Cal (PySem.Challenge.pw_bowstands_k63_whole_hurdles) w K mg base [P10, P11] 3 "_law_ranked" s_lawranked ["bag", "hands", "many"] fn_lawranked := cal_of (N := ["bag", "hands", "many", "row", "rows", "at", "far", "own", "mate", "close", "hand"]) (b := d_lawranked) F27 (PySem.W.mg_of X G a27) sc_lawranked b27 (fun cdv A outer s H E hcd hA hR => ok_lawranked (PySem.W.mg_none_of X G z_list) (PySem.W.mg_none_of X G z_range) (PySem.W.mg_none_of X G z_tuple) C_lawdraw C_lawmixed cdv A outer s H E hA hR)
  have C_lawwith : Cal (PySem.Challenge.pw_bowstands_k63_whole_hurdles) w K mg base [P10, P11] 2 "_law_with" s_lawwith ["table", "own", "mate", "deals"] fn_lawwith := cal_of (N := ["table", "own", "mate", "deals", "rows", "row"]) (b := d_lawwith) F28 (PySem.W.mg_of X G a28) sc_lawwith b28 (fun cdv A outer s H E hcd hA hR => ok_lawwith (PySem.W.mg_none_of X G z_tuple) C_lawrows cdv A outer s H E hA hR)
  have C_lawturned : Cal (PySem.Challenge.pw_bowstands_k63_whole_hurdles) w K mg base [P10, P11] 3 "_law_turned" s_lawturned ["bag", "table", "many"] fn_lawturned := cal_of (N := ["bag", "table", "many", "menu", "turn", "own", "mate"]) (b := d_lawturned) F29 (PySem.W.mg_of X G a29) sc_lawturned b29 (fun cdv A outer s H E hcd hA hR => ok_lawturned (PySem.W.mg_none_of X G z_len) (PySem.W.mg_none_of X G z_list) (PySem.W.mg_none_of X G z_range) C_lawwith C_lawpick C_lawmixed cdv A outer s H E hA hR)
  have C_lawplain : Cal (PySem.Challenge.pw_bowstands_k63_whole_hurdles) w K mg base [P10, P11] 4 "_law_plain" s_lawplain ["bag", "hands"] fn_lawplain := cal_of (N := ["bag", "hands", "fork", "many", "table", "row", "own", "mate"]) (b := d_lawplain) F30 (PySem.W.mg_of X G a30) sc_lawplain b30 (fun cdv A outer s H E hcd hA hR => ok_lawplain (PySem.W.mg_none_of X G z_len) (PySem.W.mg_none_of X G z_list) (PySem.W.mg_none_of X G z_range) (PySem.W.mg_none_of X G z_zip) C_lawwith C_lawmixed C_lawdraw C_lawturned C_lawranked C_lawtable C_lawpick cdv A outer s H E hA hR)
  have C_lawbowring : Cal (PySem.Challenge.pw_bowstands_k63_whole_hurdles) w K mg base [P10, P11] 1 "_law_bow_ring" s_lawbowring ["table"] fn_lawbowring := cal_of (N := ["table", "rows", "number", "longer", "row", "near", "closed", "own"]) (b := d_lawbowring) F31 (PySem.W.mg_of X G a31) sc_lawbowring b31 (fun cdv A outer s H E hcd hA hR => ok_lawbowring (PySem.W.mg_none_of X G z_len) (PySem.W.mg_none_of X G z_range) (PySem.W.mg_none_of X G z_sorted) cdv A outer s H E hA hR)
  have C_lawhurdle : Cal (PySem.Challenge.pw_bowstands_k63_whole_hurdles) w K mg base [P10, P11] 2 "_law_hurdle" s_lawhurdle ["table"] fn_lawhurdle := cal_of (N := ["table", "ring", "hands", "own", "mate", "far"]) (b := d_lawhurdle) F32 (PySem.W.mg_of X G a32) sc_lawhurdle b32 (fun cdv A outer s H E hcd hA hR => ok_lawhurdle (PySem.W.mg_none_of X G z_len) (PySem.W.mg_none_of X G z_list) (PySem.W.mg_none_of X G z_range) C_lawbowring cdv A outer s H E hA hR)
  have C_lawlike_0 : Cal (PySem.Challenge.pw_bowstands_k63_whole_hurdles) w K mg base [P10, P11] 1 "_law_like" s_lawlike ["value", "due"] (fN_lawlike 0) := cal_of (N := ["value", "due", "k"]) (b := dsNo) F33 (PySem.W.mg_of X G a33) sc_lawlike b33 (fun cdv A outer s H E hcd hA hR => pss_no)
  have C_lawlike_1 : Cal (PySem.Challenge.pw_bowstands_k63_whole_hurdles) w K mg base [P10, P11] 2 "_law_like" s_lawlike ["value", "due"] (fN_lawlike 1) := cal_of (N := ["value", "due", "k"]) (b := d_lawlike (fN_lawlike 0)) F33 (PySem.W.mg_of X G a33) sc_lawlike b33 (fun cdv A outer s H E hcd hA hR => ok_lawlike (PySem.W.mg_none_of X G z_all) (PySem.W.mg_none_of X G z_bool) (PySem.W.mg_none_of X G z_int) (PySem.W.mg_none_of X G z_isinstance) (PySem.W.mg_none_of X G z_len) (PySem.W.mg_none_of X G z_range) (PySem.W.mg_none_of X G z_str) (PySem.W.mg_none_of X G z_tuple) C_lawlike_0 cdv A outer s H E hA hR)
  have C_lawlike_2 : Cal (PySem.Challenge.pw_bowstands_k63_whole_hurdles) w K mg base [P10, P11] 3 "_law_like" s_lawlike ["value", "due"] (fN_lawlike 2) := cal_of (N := ["value", "due", "k"]) (b := d_lawlike (fN_lawlike 1)) F33 (PySem.W.mg_of X G a33) sc_lawlike b33 (fun cdv A outer s H E hcd hA hR => ok_lawlike (PySem.W.mg_none_of X G z_all) (PySem.W.mg_none_of X G z_bool) (PySem.W.mg_none_of X G z_int) (PySem.W.mg_none_of X G z_isinstance) (PySem.W.mg_none_of X G z_len) (PySem.W.mg_none_of X G z_range) (PySem.W.mg_none_of X G z_str) (PySem.W.mg_none_of X G z_tuple) C_lawlike_1 cdv A outer s H E hA hR)
  have C_lawlike_3 : Cal (PySem.Challenge.pw_bowstands_k63_whole_hurdles) w K mg base [P10, P11] 4 "_law_like" s_lawlike ["value", "due"] (fN_lawlike 3) := cal_of (N := ["value", "due", "k"]) (b := d_lawlike (fN_lawlike 2)) F33 (PySem.W.mg_of X G a33) sc_lawlike b33 (fun cdv A outer s H E hcd hA hR => ok_lawlike (PySem.W.mg_none_of X G z_all) (PySem.W.mg_none_of X G z_bool) (PySem.W.mg_none_of X G z_int) (PySem.W.mg_none_of X G z_isinstance) (PySem.W.mg_none_of X G z_len) (PySem.W.mg_none_of X G z_range) (PySem.W.mg_none_of X G z_str) (PySem.W.mg_none_of X G z_tuple) C_lawlike_2 cdv A outer s H E hA hR)
  have C_lawlike_4 : Cal (PySem.Challenge.pw_bowstands_k63_whole_hurdles) w K mg base [P10, P11] 5 "_law_like" s_lawlike ["value", "due"] (fN_lawlike 4) := cal_of (N := ["value", "due", "k"]) (b := d_lawlike (fN_lawlike 3)) F33 (PySem.W.mg_of X G a33) sc_lawlike b33 (fun cdv A outer s H E hcd hA hR => ok_lawlike (PySem.W.mg_none_of X G z_all) (PySem.W.mg_none_of X G z_bool) (PySem.W.mg_none_of X G z_int) (PySem.W.mg_none_of X G z_isinstance) (PySem.W.mg_none_of X G z_len) (PySem.W.mg_none_of X G z_range) (PySem.W.mg_none_of X G z_str) (PySem.W.mg_none_of X G z_tuple) C_lawlike_3 cdv A outer s H E hA hR)
  have C_lawlike_5 : Cal (PySem.Challenge.pw_bowstands_k63_whole_hurdles) w K mg base [P10, P11] 6 "_law_like" s_lawlike ["value", "due"] (fN_lawlike 5) := cal_of (N := ["value", "due", "k"]) (b := d_lawlike (fN_lawlike 4)) F33 (PySem.W.mg_of X G a33) sc_lawlike b33 (fun cdv A outer s H E hcd hA hR => ok_lawlike (PySem.W.mg_none_of X G z_all) (PySem.W.mg_none_of X G z_bool) (PySem.W.mg_none_of X G z_int) (PySem.W.mg_none_of X G z_isinstance) (PySem.W.mg_none_of X G z_len) (PySem.W.mg_none_of X G z_range) (PySem.W.mg_none_of X G z_str) (PySem.W.mg_none_of X G z_tuple) C_lawlike_4 cdv A outer s H E hA hR)
  have C_lawlike_6 : Cal (PySem.Challenge.pw_bowstands_k63_whole_hurdles) w K mg base [P10, P11] 7 "_law_like" s_lawlike ["value", "due"] (fN_lawlike 6) := cal_of (N := ["value", "due", "k"]) (b := d_lawlike (fN_lawlike 5)) F33 (PySem.W.mg_of X G a33) sc_lawlike b33 (fun cdv A outer s H E hcd hA hR => ok_lawlike (PySem.W.mg_none_of X G z_all) (PySem.W.mg_none_of X G z_bool) (PySem.W.mg_none_of X G z_int) (PySem.W.mg_none_of X G z_isinstance) (PySem.W.mg_none_of X G z_len) (PySem.W.mg_none_of X G z_range) (PySem.W.mg_none_of X G z_str) (PySem.W.mg_none_of X G z_tuple) C_lawlike_5 cdv A outer s H E hA hR)
  have C_lawlike_7 : Cal (PySem.Challenge.pw_bowstands_k63_whole_hurdles) w K mg base [P10, P11] 8 "_law_like" s_lawlike ["value", "due"] (fN_lawlike 7) := cal_of (N := ["value", "due", "k"]) (b := d_lawlike (fN_lawlike 6)) F33 (PySem.W.mg_of X G a33) sc_lawlike b33 (fun cdv A outer s H E hcd hA hR => ok_lawlike (PySem.W.mg_none_of X G z_all) (PySem.W.mg_none_of X G z_bool) (PySem.W.mg_none_of X G z_int) (PySem.W.mg_none_of X G z_isinstance) (PySem.W.mg_none_of X G z_len) (PySem.W.mg_none_of X G z_range) (PySem.W.mg_none_of X G z_str) (PySem.W.mg_none_of X G z_tuple) C_lawlike_6 cdv A outer s H E hA hR)
  have C_lawlike_8 : Cal (PySem.Challenge.pw_bowstands_k63_whole_hurdles) w K mg base [P10, P11] 9 "_law_like" s_lawlike ["value", "due"] (fN_lawlike 8) := cal_of (N := ["value", "due", "k"]) (b := d_lawlike (fN_lawlike 7)) F33 (PySem.W.mg_of X G a33) sc_lawlike b33 (fun cdv A outer s H E hcd hA hR => ok_lawlike (PySem.W.mg_none_of X G z_all) (PySem.W.mg_none_of X G z_bool) (PySem.W.mg_none_of X G z_int) (PySem.W.mg_none_of X G z_isinstance) (PySem.W.mg_none_of X G z_len) (PySem.W.mg_none_of X G z_range) (PySem.W.mg_none_of X G z_str) (PySem.W.mg_none_of X G z_tuple) C_lawlike_7 cdv A outer s H E hA hR)
  have C_lawlike : Cal (PySem.Challenge.pw_bowstands_k63_whole_hurdles) w K mg base [P10, P11] 9 "_law_like" s_lawlike ["value", "due"] fn_lawlike := C_lawlike_8
  exact fnG_D F34 sc_law (fun cdv A outer s H E hcd hA hR => ok_law (PySem.W.mg_none_of X G z_int) (PySem.W.mg_none_of X G z_range) C_lawlike C_hurdle C_lawhurdle C_lawplain C_lawdraw C_lawbag cdv A outer s H E hA hR)
end Vk
open PySem PySem.W PyProof.Rows
set_option maxHeartbeats 0 in
theorem PySem.Challenge.cw_bowstands_k63_whole_hurdles_holds : PySem.Challenge.rw_bowstands_k63_whole_hurdles.Holds := by
  w_on; o_law; k_head; (case hw => w_witness2)
  k_fill
  refine Vw.walk_ofG (l := PySem.Challenge.rw_bowstands_k63_whole_hurdles) (n := 63) (k := 14) (x := "script") rfl (by decide) rfl ⟨rfl, by decide, by decide⟩ (fun w h Y => PySem.W.kIn_of Y) ?F
  case F =>
    intro w mg fa h Y KX G hmg tabs
    refine' Vk.all_mk KX G hmg tabs ?kt ?a1 ?l1 ?c1 ?k1 ?a2 ?l2 ?c2 ?k2 ?a3 ?l3 ?c3 ?k3 ?a4 ?l4 ?c4 ?k4 ?a5 ?l5 ?c5 ?k5 ?a6 ?l6 ?c6 ?k6 ?a7 ?l7 ?c7 ?k7 ?a8 ?l8 ?c8 ?k8 ?a9 ?l9 ?c9 ?k9 ?a10 ?l10 ?c10 ?k10 ?e10 ?v10 ?p10 ?n10 ?d10 ?r10 ?a11 ?l11 ?c11 ?k11 ?e11 ?v11 ?p11 ?n11 ?d11 ?r11 ?a12 ?l12 ?c12 ?k12 ?a13 ?l13 ?c13 ?k13 ?a14 ?l14 ?c14 ?k14 ?a15 ?l15 ?c15 ?k15 ?a16 ?l16 ?c16 ?k16 ?a17 ?l17 ?c17 ?k17 ?a18 ?l18 ?c18 ?k18 ?a19 ?l19 ?c19 ?k19 ?a20 ?l20 ?c20 ?k20 ?a21 ?l21 ?c21 ?k21 ?a22 ?l22 ?c22 ?k22 ?a23 ?l23 ?c23 ?k23 ?a24 ?l24 ?c24 ?k24 ?a25 ?l25 ?c25 ?k25 ?a26 ?l26 ?c26 ?k26 ?a27 ?l27 ?c27 ?k27 ?a28 ?l28 ?c28 ?k28 ?a29 ?l29 ?c29 ?k29 ?a30 ?l30 ?c30 ?k30 ?a31 ?l31 ?c31 ?k31 ?a32 ?l32 ?c32 ?k32 ?a33 ?l33 ?c33 ?k33 ?a34 ?l34 ?c34 ?k34 ?z_abs ?z_all ?z_bool ?z_enumerate ?z_int ?z_isinstance ?z_len ?z_list ?z_min ?z_range ?z_sorted ?z_str ?z_tuple ?z_zip ?g_LOTS ?gk_LOTS ?gs_LOTS ?gf_LOTS ?g_MAX_HANDS ?g_WORDS ?gk_WORDS ?gs_WORDS ?gf_WORDS
    (case kt => first | k_is | kernel_rfl); (case a1 => k_is); (case l1 => k_is); (case c1 => k_is); (case k1 => k_is); (case a2 => k_is); (case l2 => k_is); (case c2 => k_is); (case k2 => k_is); (case a3 => k_is); (case l3 => k_is); (case c3 => k_is); (case k3 => k_is); (case a4 => k_is); (case l4 => k_is); (case c4 => k_is); (case k4 => k_is); (case a5 => k_is); (case l5 => k_is); (case c5 => k_is); (case k5 => k_is); (case a6 => k_is); (case l6 => k_is); (case c6 => k_is); (case k6 => k_is); (case a7 => k_is); (case l7 => k_is); (case c7 => k_is); (case k7 => k_is); (case a8 => k_is); (case l8 => k_is); (case c8 => k_is); (case k8 => k_is); (case a9 => k_is); (case l9 => k_is); (case c9 => k_is); (case k9 => k_is); (case a10 => k_is); (case l10 => k_is); (case c10 => k_is); (case k10 => k_is); (case e10 => rfl); (case v10 => k_is); (case p10 => rfl); (case n10 => first | rfl | kernel_rfl); (case d10 => first | rfl | kernel_rfl); (case r10 => rfl); (case a11 => k_is); (case l11 => k_is); (case c11 => k_is); (case k11 => k_is); (case e11 => rfl); (case v11 => k_is); (case p11 => rfl); (case n11 => first | rfl | kernel_rfl); (case d11 => first | rfl | kernel_rfl); (case r11 => rfl); (case a12 => k_is); (case l12 => k_is); (case c12 => k_is); (case k12 => k_is); (case a13 => k_is); (case l13 => k_is); (case c13 => k_is); (case k13 => k_is); (case a14 => k_is); (case l14 => k_is); (case c14 => k_is); (case k14 => k_is); (case a15 => k_is); (case l15 => k_is); (case c15 => k_is); (case k15 => k_is); (case a16 => k_is); (case l16 => k_is); (case c16 => k_is); (case k16 => k_is); (case a17 => k_is); (case l17 => k_is); (case c17 => k_is); (case k17 => k_is); (case a18 => k_is); (case l18 => k_is); (case c18 => k_is); (case k18 => k_is); (case a19 => k_is); (case l19 => k_is); (case c19 => k_is); (case k19 => k_is); (case a20 => k_is); (case l20 => k_is); (case c20 => k_is); (case k20 => k_is); (case a21 => k_is); (case l21 => k_is); (case c21 => k_is); (case k21 => k_is); (case a22 => k_is); (case l22 => k_is); (case c22 => k_is); (case k22 => k_is); (case a23 => k_is); (case l23 => k_is); (case c23 => k_is); (case k23 => k_is); (case a24 => k_is); (case l24 => k_is); (case c24 => k_is); (case k24 => k_is); (case a25 => k_is); (case l25 => k_is); (case c25 => k_is); (case k25 => k_is); (case a26 => k_is); (case l26 => k_is); (case c26 => k_is); (case k26 => k_is); (case a27 => k_is); (case l27 => k_is); (case c27 => k_is); (case k27 => k_is); (case a28 => k_is); (case l28 => k_is); (case c28 => k_is); (case k28 => k_is); (case a29 => k_is); (case l29 => k_is); (case c29 => k_is); (case k29 => k_is); (case a30 => k_is); (case l30 => k_is); (case c30 => k_is); (case k30 => k_is); (case a31 => k_is); (case l31 => k_is); (case c31 => k_is); (case k31 => k_is); (case a32 => k_is); (case l32 => k_is); (case c32 => k_is); (case k32 => k_is); (case a33 => k_is); (case l33 => k_is); (case c33 => k_is); (case k33 => k_is); (case a34 => k_is); (case l34 => k_is); (case c34 => k_is); (case k34 => k_is); (case z_abs => k_is); (case z_all => k_is); (case z_bool => k_is); (case z_enumerate => k_is); (case z_int => k_is); (case z_isinstance => k_is); (case z_len => k_is); (case z_list => k_is); (case z_min => k_is); (case z_range => k_is); (case z_sorted => k_is); (case z_str => k_is); (case z_tuple => k_is); (case z_zip => k_is); (case g_LOTS => k_is); (case gk_LOTS => k_is); (case gs_LOTS => first | rfl | decide +kernel | kernel_rfl); (case gf_LOTS => first | rfl | decide +kernel | kernel_rfl); (case g_MAX_HANDS => k_is); (case g_WORDS => k_is); (case gk_WORDS => k_is); (case gs_WORDS => first | rfl | decide +kernel | kernel_rfl); (case gf_WORDS => first | rfl | decide +kernel | kernel_rfl)
