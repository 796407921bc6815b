/- The program's values: records, how they lie, and their cells. -/
import Derived.Test.YtgkfbikffcmmdaaAbsL
import Derived.Test.YtgkfbikffcmmdaaFrames
set_option linter.unusedSimpArgs false
set_option linter.unusedVariables false
set_option maxRecDepth 100000
namespace Go.Proofs.Ytgkfbikffcmmdaa.Abs
open Go.RowKit
abbrev u8 (n : Int) : CV := .v (.int .u8 n)
abbrev u32 (n : Int) : CV := .v (.int .u32 n)
abbrev i64 (n : Int) : CV := .v (.int .i64 n)
abbrev bl (b : Bool) : CV := .v (.bool b)
abbrev rB (b : Bool) : RV := .one (.one (bl b))
abbrev rI (n : Int) : RV := .one (.one (i64 n))
structure Draws where
  list : List Int
  next : Int
  deriving DecidableEq
structure Gram where
  to : Int
  words : List Int
  deriving DecidableEq
structure Net where
  room : Int
  grams : List Gram
  seen : List (List Int)
  deriving DecidableEq
structure Sealed where
  handle : Int
  key : Int
  label : Int
  plain : List Int
  deriving DecidableEq
structure Box where
  room : Int
  entries : List Sealed
  deriving DecidableEq
structure Run where
  proto : Int
  role : Int
  peer : Int
  mine : Int
  their : Int
  m : Int
  k : Int
  t : Int
  state : Int
  deriving DecidableEq
structure Person where
  name : Int
  key : Int
  clock : Int
  used : List Int
  runs : List Run
  corrupt : Bool
  deriving DecidableEq
structure Event where
  kind : Int
  proto : Int
  role : Int
  a : Int
  b : Int
  k : Int
  t : Int
  m : Int
  n : Int
  clock : Int
  deriving DecidableEq
structure Leak where
  k : Int
  at_ : Int
  deriving DecidableEq
structure Conf where
  window : Int
  people : Int
  box : Int
  used : Int
  runs : Int
  net : Int
  regs : Int
  deriving DecidableEq
structure Wld where
  conf : Conf
  draws : Draws
  box : Box
  net : Net
  people : List Person
  log : List Event
  regs : List (List Int)
  leaks : List Leak
  deriving DecidableEq
structure Oprn where
  kind : Int
  a : Int
  b : Int
  c : Int
  d : Int
  words : List Int
  deriving DecidableEq
structure Prt where
  n : Int
  m : Int
  a : Int
  b : Int
  k : Int
  t : Int
  h : Int
  deriving DecidableEq
abbrev Mssg := M7
def eWord (x : Int) : List CV := [u32 x]
def eWords (l : List Int) : CV := .row (l.map eWord)
def eSeen (l : List Int) : List CV := [eWords l]
def eRows (l : List (List Int)) : CV := .row (l.map eSeen)
def eNum (x : Int) : List CV := [i64 x]
def eNums (l : List Int) : CV := .row (l.map eNum)
def eDraws (d : Draws) : List CV := [eWords d.list, i64 d.next]
def eGram (g : Gram) : List CV := [u32 g.to, eWords g.words]
def eGrams (l : List Gram) : CV := .row (l.map eGram)
def eNet (n : Net) : List CV := [i64 n.room, eGrams n.grams, eRows n.seen]
def eSealed (s : Sealed) : List CV := [u32 s.handle, u32 s.key, u32 s.label, eWords s.plain]
def eSealeds (l : List Sealed) : CV := .row (l.map eSealed)
def eBox (b : Box) : List CV := [i64 b.room, eSealeds b.entries]
def eRun (r : Run) : List CV := [i64 r.proto, i64 r.role, u32 r.peer, u32 r.mine, u32 r.their, u32 r.m, u32 r.k, u32 r.t, i64 r.state]
def eRuns (l : List Run) : CV := .row (l.map eRun)
def ePerson (p : Person) : List CV := [u32 p.name, u32 p.key, u32 p.clock, eWords p.used, eRuns p.runs, bl p.corrupt]
def ePeople (l : List Person) : CV := .row (l.map ePerson)
def eEvent (e : Event) : List CV := [i64 e.kind, i64 e.proto, i64 e.role, u32 e.a, u32 e.b, u32 e.k, u32 e.t, u32 e.m, u32 e.n, u32 e.clock]
def eEvents (l : List Event) : CV := .row (l.map eEvent)
def eLeak (l : Leak) : List CV := [u32 l.k, u32 l.at_]
def eLeaks (l : List Leak) : CV := .row (l.map eLeak)
def eConf (c : Conf) : List CV := [u32 c.window, i64 c.people, i64 c.box, i64 c.used, i64 c.runs, i64 c.net, i64 c.regs]
def eWld (w : Wld) : List CV := [u32 w.conf.window, i64 w.conf.people, i64 w.conf.box, i64 w.conf.used, i64 w.conf.runs, i64 w.conf.net, i64 w.conf.regs, eWords w.draws.list, i64 w.draws.next, i64 w.box.room, eSealeds w.box.entries, i64 w.net.room, eGrams w.net.grams, eRows w.net.seen, ePeople w.people, eEvents w.log, eRows w.regs, eLeaks w.leaks]
def eOprn (o : Oprn) : List CV := [i64 o.kind, i64 o.a, i64 o.b, i64 o.c, i64 o.d, eWords o.words]
def eOprns (l : List Oprn) : CV := .row (l.map eOprn)
def ePrt (p : Prt) : List CV := [u32 p.n, u32 p.m, u32 p.a, u32 p.b, u32 p.k, u32 p.t, u32 p.h]
def eMssg (m : Mssg) : List CV := [u32 m.kind, u32 m.run, u32 m.a, u32 m.b, u32 m.nonce, u32 m.box, u32 m.more]

def n32 : Cod Int := Cod.num .u32
def n64 : Cod Int := Cod.num .i64
def gramC : Cod Gram := (n32.prod Cod.words).via fun g => (g.to, g.words)
def netC : Cod Net := (n64.prod (gramC.row.prod Cod.words.row)).via fun n => (n.room, n.grams, n.seen)
def drawsC : Cod Draws := (Cod.words.prod n64).via fun d => (d.list, d.next)
def sealedC : Cod Sealed := (n32.prod (n32.prod (n32.prod Cod.words))).via fun s => (s.handle, s.key, s.label, s.plain)
def boxC : Cod Box := (n64.prod sealedC.row).via fun b => (b.room, b.entries)
def runC : Cod Run := (n64.prod (n64.prod (n32.prod (n32.prod (n32.prod (n32.prod (n32.prod (n32.prod n64)))))))).via fun r => (r.proto, r.role, r.peer, r.mine, r.their, r.m, r.k, r.t, r.state)
def personC : Cod Person := (n32.prod (n32.prod (n32.prod (Cod.words.prod (runC.row.prod Cod.flag))))).via fun p => (p.name, p.key, p.clock, p.used, p.runs, p.corrupt)
def eventC : Cod Event := (n64.prod (n64.prod (n64.prod (n32.prod (n32.prod (n32.prod (n32.prod (n32.prod (n32.prod n32))))))))).via fun e => (e.kind, e.proto, e.role, e.a, e.b, e.k, e.t, e.m, e.n, e.clock)
def leakC : Cod Leak := (n32.prod n32).via fun l => (l.k, l.at_)
def confC : Cod Conf := (n32.prod (n64.prod (n64.prod (n64.prod (n64.prod (n64.prod n64)))))).via fun c => (c.window, c.people, c.box, c.used, c.runs, c.net, c.regs)
def wldC : Cod Wld := (confC.prod (drawsC.prod (boxC.prod (netC.prod (personC.row.prod (eventC.row.prod (Cod.words.row.prod leakC.row))))))).via fun w => (w.conf, w.draws, w.box, w.net, w.people, w.log, w.regs, w.leaks)
def oprnC : Cod Oprn := (n64.prod (n64.prod (n64.prod (n64.prod (n64.prod Cod.words))))).via fun o => (o.kind, o.a, o.b, o.c, o.d, o.words)
def prtC : Cod Prt := (n32.prod (n32.prod (n32.prod (n32.prod (n32.prod (n32.prod n32)))))).via fun p => (p.n, p.m, p.a, p.b, p.k, p.t, p.h)
def mssgC : Cod Mssg := (n32.prod (n32.prod (n32.prod (n32.prod (n32.prod (n32.prod n32)))))).via fun m => (m.kind, m.run, m.a, m.b, m.nonce, m.box, m.more)
theorem enc32 : Enc n32 eWord := Enc.num .u32
theorem enc64 : Enc n64 eNum := Enc.num .i64
theorem encWords : Enc Cod.words (fun l => [eWords l]) := Enc.row (Enc.num .u32) (by decide)
theorem encRows : Enc Cod.words.row (fun l => [eRows l]) := Enc.row encWords (by decide)
theorem encGram : Enc gramC eGram := (enc32.prod encWords).via _
theorem encGrams : Enc gramC.row (fun l => [eGrams l]) := Enc.row encGram (by decide)
theorem encNet : Enc netC eNet := (enc64.prod (encGrams.prod encRows)).via _
theorem encDraws : Enc drawsC eDraws := (encWords.prod enc64).via _
theorem encSealed : Enc sealedC eSealed := (enc32.prod (enc32.prod (enc32.prod encWords))).via _
theorem encSealeds : Enc sealedC.row (fun l => [eSealeds l]) := Enc.row encSealed (by decide)
theorem encBox : Enc boxC eBox := (enc64.prod encSealeds).via _
theorem encRun : Enc runC eRun := (enc64.prod (enc64.prod (enc32.prod (enc32.prod (enc32.prod (enc32.prod (enc32.prod (enc32.prod enc64)))))))).via _
theorem encRuns : Enc runC.row (fun l => [eRuns l]) := Enc.row encRun (by decide)
theorem encPerson : Enc personC ePerson := (enc32.prod (enc32.prod (enc32.prod (encWords.prod (encRuns.prod Enc.flag))))).via _
theorem encPeople : Enc personC.row (fun l => [ePeople l]) := Enc.row encPerson (by decide)
theorem encEvent : Enc eventC eEvent := (enc64.prod (enc64.prod (enc64.prod (enc32.prod (enc32.prod (enc32.prod (enc32.prod (enc32.prod (enc32.prod enc32))))))))).via _
theorem encEvents : Enc eventC.row (fun l => [eEvents l]) := Enc.row encEvent (by decide)
theorem encLeak : Enc leakC eLeak := (enc32.prod enc32).via _
theorem encLeaks : Enc leakC.row (fun l => [eLeaks l]) := Enc.row encLeak (by decide)
theorem encConf : Enc confC eConf := (enc32.prod (enc64.prod (enc64.prod (enc64.prod (enc64.prod (enc64.prod enc64)))))).via _
theorem encWld : Enc wldC eWld := (encConf.prod (encDraws.prod (encBox.prod (encNet.prod (encPeople.prod (encEvents.prod (encRows.prod encLeaks))))))).via _
theorem encOprn : Enc oprnC eOprn := (enc64.prod (enc64.prod (enc64.prod (enc64.prod (enc64.prod encWords))))).via _
theorem encPrt : Enc prtC ePrt := (enc32.prod (enc32.prod (enc32.prod (enc32.prod (enc32.prod (enc32.prod enc32)))))).via _
theorem encMssg : Enc mssgC eMssg := (enc32.prod (enc32.prod (enc32.prod (enc32.prod (enc32.prod (enc32.prod enc32)))))).via _

theorem c0Row {α : Type} {f : α → List CV} {l : List α} (h : ∀ x, ∀ u ∈ f x, C0 u) : C0 (.rowc 0 (l.map f)) := C0.row fun us hu => by
  obtain ⟨x, _, rfl⟩ := List.mem_map.1 hu
  exact h x
theorem c0Words (l : List Int) : C0 (eWords l) := c0Row fun x u hu => by
  simp only [eWord, List.mem_singleton] at hu
  subst hu; exact C0.v
theorem c0Rows (l : List (List Int)) : C0 (eRows l) := c0Row fun x u hu => by
  simp only [eSeen, List.mem_singleton] at hu
  subst hu; exact c0Words x
theorem c0Grams (l : List Gram) : C0 (eGrams l) := c0Row fun x u hu => by
  simp only [eGram, List.mem_cons, List.not_mem_nil, or_false] at hu
  rcases hu with rfl | rfl
  · exact C0.v
  · exact c0Words _
theorem c0Sealeds (l : List Sealed) : C0 (eSealeds l) := c0Row fun x u hu => by
  simp only [eSealed, List.mem_cons, List.not_mem_nil, or_false] at hu
  rcases hu with rfl | rfl | rfl | rfl
  · exact C0.v
  · exact C0.v
  · exact C0.v
  · exact c0Words _
theorem c0Runs (l : List Run) : C0 (eRuns l) := c0Row fun x u hu => by
  simp only [eRun, List.mem_cons, List.not_mem_nil, or_false] at hu
  rcases hu with rfl | rfl | rfl | rfl | rfl | rfl | rfl | rfl | rfl <;> exact C0.v
theorem c0People (l : List Person) : C0 (ePeople l) := c0Row fun x u hu => by
  simp only [ePerson, List.mem_cons, List.not_mem_nil, or_false] at hu
  rcases hu with rfl | rfl | rfl | rfl | rfl | rfl
  · exact C0.v
  · exact C0.v
  · exact C0.v
  · exact c0Words _
  · exact c0Runs _
  · exact C0.v
theorem c0Events (l : List Event) : C0 (eEvents l) := c0Row fun x u hu => by
  simp only [eEvent, List.mem_cons, List.not_mem_nil, or_false] at hu
  rcases hu with rfl | rfl | rfl | rfl | rfl | rfl | rfl | rfl | rfl | rfl <;> exact C0.v
theorem c0Leaks (l : List Leak) : C0 (eLeaks l) := c0Row fun x u hu => by
  simp only [eLeak, List.mem_cons, List.not_mem_nil, or_false] at hu
  rcases hu with rfl | rfl <;> exact C0.v
theorem c0Oprns (l : List Oprn) : C0 (eOprns l) := c0Row fun x u hu => by
  simp only [eOprn, List.mem_cons, List.not_mem_nil, or_false] at hu
  rcases hu with rfl | rfl | rfl | rfl | rfl | rfl
  · exact C0.v
  · exact C0.v
  · exact C0.v
  · exact C0.v
  · exact C0.v
  · exact c0Words _
theorem lWord (l : List Int) : ∀ us ∈ l.map eWord, us.length = 1 := by simp [eWord]
theorem lNum (l : List Int) : ∀ us ∈ l.map eNum, us.length = 1 := by simp [eNum]
theorem lSeen (l : List (List Int)) : ∀ us ∈ l.map eSeen, us.length = 1 := by simp [eSeen]
theorem lGram (l : List Gram) : ∀ us ∈ l.map eGram, us.length = 2 := by simp [eGram]
theorem lSealed (l : List Sealed) : ∀ us ∈ l.map eSealed, us.length = 4 := by simp [eSealed]
theorem lRun (l : List Run) : ∀ us ∈ l.map eRun, us.length = 9 := by simp [eRun]
theorem lPerson (l : List Person) : ∀ us ∈ l.map ePerson, us.length = 6 := by simp [ePerson]
theorem lEvent (l : List Event) : ∀ us ∈ l.map eEvent, us.length = 10 := by simp [eEvent]
theorem lLeak (l : List Leak) : ∀ us ∈ l.map eLeak, us.length = 2 := by simp [eLeak]
theorem lOprn (l : List Oprn) : ∀ us ∈ l.map eOprn, us.length = 6 := by simp [eOprn]
theorem fineWords {l : List Int} (h : Fine (eWords l)) : l.length ≤ 9223372036854775807 ∧ ∀ x ∈ l, 0 ≤ x ∧ x < 4294967296 := by
  obtain ⟨h1, h2⟩ := Fine.rowM h
  exact ⟨h1, fun x hx => in_u32 (h2 x hx (u32 x) (by simp [eWord])).int⟩
theorem fineRows {l : List (List Int)} (h : Fine (eRows l)) : l.length ≤ 9223372036854775807 ∧ ∀ x ∈ l, Fine (eWords x) := by
  obtain ⟨h1, h2⟩ := Fine.rowM h
  exact ⟨h1, fun x hx => h2 x hx (eWords x) (by simp [eSeen])⟩
attribute [go_sem] List.length_append List.length_singleton List.mem_singleton forall_eq List.mem_cons List.not_mem_nil or_false
end Go.Proofs.Ytgkfbikffcmmdaa.Abs
