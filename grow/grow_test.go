package grow_test

import (
	"math"
	"math/rand"
	"slices"
	"testing"

	"lapidary/api"
	"lapidary/grow"
	"lapidary/walk"
)

// steps reads S, B, F for api.Seed, api.Border, api.Fresh; and a digit for api.Known, with that number.
func steps(text string) []api.Step {
	var l []api.Step
	for _, c := range text {
		switch c {
		case 'S':
			l = append(l, api.Step{Kind: api.Seed})
		case 'B':
			l = append(l, api.Step{Kind: api.Border})
		case 'F':
			l = append(l, api.Step{Kind: api.Fresh})
		default:
			l = append(l, known(int(c-'0')))
		}
	}
	return l
}

func known(v int) api.Step {
	return api.Step{Kind: api.Known, V: v}
}

// grown is a grower that was told these steps, all of them without an error.
func grown(t *testing.T, l []api.Step) *grow.Grower {
	t.Helper()
	g := grow.New()
	if e := g.Step(l...); e != api.OK {
		t.Fatalf("%v: %d", brief(l), e)
	}
	return g
}

// brief is as much of l as a message can bear.
func brief[E any](l []E) []E {
	return l[:min(len(l), 40)]
}

// has fails unless g's gates, vertices and triangles are these.
func has(t *testing.T, name string, g *grow.Grower, open, verts int, tris [][3]int) {
	t.Helper()
	if n := g.Open(); n != open {
		t.Errorf("%s: Open %d, not %d", name, n, open)
	}
	if n := g.Verts(); n != verts {
		t.Errorf("%s: Verts %d, not %d", name, n, verts)
	}
	if l := g.Tris(); !slices.Equal(l, tris) {
		t.Errorf("%s: Tris %v, not %v", name, brief(l), brief(tris))
	}
}

// closes fails unless Close tells this, again and again.
func closes(t *testing.T, name string, g *grow.Grower, want [][3]int, we api.Errno) {
	t.Helper()
	for range 2 {
		if l, e := g.Close(); e != we || !slices.Equal(l, want) {
			t.Errorf("%s: Close %v, %d; not %v, %d", name, brief(l), e, brief(want), we)
		}
	}
}

// makes fails unless All tells this.
func makes(t *testing.T, name string, l []api.Step, want [][3]int, verts int, we api.Errno) {
	t.Helper()
	if tris, n, e := grow.All(l...); e != we || n != verts || !slices.Equal(tris, want) {
		t.Errorf("%s: All %v, %d, %d; not %v, %d, %d", name, brief(tris), n, e, brief(want), verts, we)
	}
}

// ended fails unless nothing but this error is told any more, and nothing more is done.
func ended(t *testing.T, name string, g *grow.Grower, want api.Errno) {
	t.Helper()
	open, verts, tris := g.Open(), g.Verts(), g.Tris()
	for _, l := range [][]api.Step{nil, {}, steps("S"), steps("B"), steps("F"), steps("1"), steps("BBBB"), {{Kind: 9}}, {known(-1), {}}} {
		if e := g.Step(l...); e != want {
			t.Errorf("%s: Step of %v behind %d: %d", name, l, want, e)
		}
		closes(t, name, g, nil, want)
	}
	has(t, name, g, open, verts, tris)
}

// agree holds all that is told of a grower against the chapter's words.
func agree(t *testing.T, name string, g *grow.Grower, want *byWords) {
	t.Helper()
	has(t, name, g, want.open(), want.verts, want.tris)
	tris, e := want.close()
	closes(t, name, g, tris, e)
	if e := g.Step(); e != want.told {
		t.Errorf("%s: Step of nothing %d, not %d", name, e, want.told)
	}
}

// follow holds what is told of these steps, one by one, and all at once, against the chapter's words.
func follow(t *testing.T, name string, l []api.Step) api.Errno {
	t.Helper()
	var want byWords
	g := grow.New()
	for i, s := range l {
		if e, we := g.Step(s), want.step(s); e != we {
			t.Errorf("%s: %v: Step %d: %d, not %d", name, l, i, e, we)
		}
		agree(t, name, g, &want)
	}
	tris, e := want.close()
	verts := want.verts
	if e != api.OK {
		verts = 0
	}
	makes(t, name, l, tris, verts, e)
	return e
}

// byHand are steps, and what they make, as it was worked out on paper.
type byHand struct {
	steps string
	open  []int // behind each step
	verts int
	tris  [][3]int
}

func allByHand() []byHand {
	return []byHand{
		{"", nil, 0, nil},
		{"SBBB", []int{3, 2, 1, 0}, 3, [][3]int{{0, 1, 2}}},
		{"S1", []int{3, 0}, 3, [][3]int{{0, 1, 2}, {0, 2, 1}}},
		{"SFBBBB", []int{3, 4, 3, 2, 1, 0}, 4, [][3]int{{0, 1, 2}, {0, 2, 3}}},
		{"SBFBBB", []int{3, 2, 3, 2, 1, 0}, 4, [][3]int{{0, 1, 2}, {2, 1, 3}}},
		{"SBBFBB", []int{3, 2, 1, 2, 1, 0}, 4, [][3]int{{0, 1, 2}, {1, 0, 3}}},
		{"SFBBFBBFBB", []int{3, 4, 3, 2, 3, 2, 1, 2, 1, 0}, 6, [][3]int{{0, 1, 2}, {0, 2, 3}, {2, 1, 4}, {1, 0, 5}}},
		{"SFFBBFBBBB", []int{3, 4, 5, 4, 3, 4, 3, 2, 1, 0}, 6, [][3]int{{0, 1, 2}, {0, 2, 3}, {0, 3, 4}, {3, 2, 5}}},
		{"SF1BBB", []int{3, 4, 3, 2, 1, 0}, 4, [][3]int{{0, 1, 2}, {0, 2, 3}, {0, 3, 1}}},
		{"SFB1BB", []int{3, 4, 3, 2, 1, 0}, 4, [][3]int{{0, 1, 2}, {0, 2, 3}, {3, 2, 1}}},
		{"SBFB0B", []int{3, 2, 3, 2, 1, 0}, 4, [][3]int{{0, 1, 2}, {2, 1, 3}, {3, 1, 0}}},
		{"SF12", []int{3, 4, 3, 0}, 4, [][3]int{{0, 1, 2}, {0, 2, 3}, {0, 3, 1}, {1, 3, 2}}},
		{"SBBBSBBB", []int{3, 2, 1, 0, 3, 2, 1, 0}, 6, [][3]int{{0, 1, 2}, {3, 4, 5}}},
		{"SBFBBBSBBB", []int{3, 2, 3, 2, 1, 0, 3, 2, 1, 0}, 7, [][3]int{{0, 1, 2}, {2, 1, 3}, {4, 5, 6}}},
		{"SBBBSBFBBB", []int{3, 2, 1, 0, 3, 2, 3, 2, 1, 0}, 7, [][3]int{{0, 1, 2}, {3, 4, 5}, {5, 4, 6}}},
		{"S1S4", []int{3, 0, 3, 0}, 6, [][3]int{{0, 1, 2}, {0, 2, 1}, {3, 4, 5}, {3, 5, 4}}},
		{"SF1BBBSF56", []int{3, 4, 3, 2, 1, 0, 3, 4, 3, 0}, 8,
			[][3]int{{0, 1, 2}, {0, 2, 3}, {0, 3, 1}, {4, 5, 6}, {4, 6, 7}, {4, 7, 5}, {5, 7, 6}}},
		{"SFFFF143524635", []int{3, 4, 5, 6, 7, 6, 7, 6, 7, 6, 5, 4, 3, 0}, 7, [][3]int{{0, 1, 2}, {0, 2, 3}, {0, 3, 4}, {0, 4, 5}, {0, 5, 6},
			{0, 6, 1}, {1, 6, 4}, {1, 4, 3}, {1, 3, 5}, {1, 5, 2}, {2, 5, 4}, {2, 4, 6}, {2, 6, 3}, {3, 6, 5}}},
	}
}

func TestByHand(t *testing.T) {
	for _, x := range allByHand() {
		l := steps(x.steps)
		g := grow.New()
		verts, tris := 0, 0
		for i, s := range l {
			if e := g.Step(s); e != api.OK {
				t.Errorf("%s: Step %d: %d", x.steps, i, e)
			}
			verts += [4]int{3, 0, 1, 0}[s.Kind]
			tris += [4]int{1, 0, 1, 1}[s.Kind]
			has(t, x.steps, g, x.open[i], verts, x.tris[:tris])
			if x.open[i] > 0 {
				closes(t, x.steps, g, nil, api.ErrShort)
			}
		}
		has(t, x.steps, g, 0, x.verts, x.tris)
		closes(t, x.steps, g, x.tris, api.OK)
		makes(t, x.steps, l, x.tris, x.verts, api.OK)
	}
}

// TestNoSteps has calls of no steps do nothing, wherever they stand.
func TestNoSteps(t *testing.T) {
	for _, none := range [][]api.Step{nil, {}} {
		g := grow.New()
		if e := g.Step(none...); e != api.OK {
			t.Error(e)
		}
		has(t, "nothing", g, 0, 0, nil)
		closes(t, "nothing", g, nil, api.OK)
		makes(t, "nothing", none, nil, 0, api.OK)
		for _, s := range steps("SF12") {
			if e := g.Step(s); e != api.OK {
				t.Error(s, e)
			}
			if e := g.Step(none...); e != api.OK {
				t.Error(s, e)
			}
		}
		closes(t, "nothing between", g, [][3]int{{0, 1, 2}, {0, 2, 3}, {0, 3, 1}, {1, 3, 2}}, api.OK)
	}
}

// wrong is a step that is an error behind others.
type wrong struct {
	ahead string
	s     api.Step
	want  api.Errno
}

func allWrong() []wrong {
	return slices.Concat(wrongKind(), wrongV(), wrongGate(), wrongKnown(), wrongEdge())
}

// words are numbers that are no kind, and no vertex of few, and some that are one if it is cut.
func words() []int {
	return []int{-1, -2, 256, 257, 1 << 31, 1 << 32, 1<<32 + 1, 1<<32 + 2, 1<<32 + 3, -1 << 32, math.MinInt, math.MaxInt}
}

func wrongKind() []wrong {
	var l []wrong
	for _, ahead := range []string{"", "S", "SB", "SF", "SBBB", "S1", "SF1"} {
		for _, kind := range append(words(), 4, 5) {
			l = append(l, wrong{ahead, api.Step{Kind: kind}, api.ErrForm}, wrong{ahead, api.Step{Kind: kind, V: 1}, api.ErrForm})
		}
	}
	return l
}

func wrongV() []wrong {
	var l []wrong
	for _, v := range append(words(), 1, 2, 3, 4) {
		l = append(l,
			wrong{"", api.Step{Kind: api.Seed, V: v}, api.ErrForm},
			wrong{"SBBB", api.Step{Kind: api.Seed, V: v}, api.ErrForm},
			wrong{"S1", api.Step{Kind: api.Seed, V: v}, api.ErrForm},
			wrong{"S", api.Step{Kind: api.Border, V: v}, api.ErrForm},
			wrong{"SF1", api.Step{Kind: api.Border, V: v}, api.ErrForm},
			wrong{"S", api.Step{Kind: api.Fresh, V: v}, api.ErrForm},
			wrong{"SF1", api.Step{Kind: api.Fresh, V: v}, api.ErrForm})
	}
	return l
}

// wrongGate has a Seed where there is a gate, and the others where there is none, or only shut ones.
func wrongGate() []wrong {
	var l []wrong
	for _, ahead := range []string{"S", "SB", "SBB", "SF", "SF1", "SF1BB", "SFFFF14352463", "SBBBS"} {
		l = append(l, wrong{ahead, api.Step{Kind: api.Seed}, api.ErrForm}, wrong{ahead, api.Step{Kind: api.Seed, V: 1}, api.ErrForm})
	}
	for _, ahead := range []string{"", "SBBB", "S1", "SF1BBB", "SF12", "SFFFF143524635", "S1S4", "SBBBSBBB"} {
		for _, s := range steps("BF01234567") {
			l = append(l, wrong{ahead, s, api.ErrForm})
		}
	}
	return l
}

// wrongKnown has vertices that are not met, or are an end of the last gate that is not shut.
func wrongKnown() []wrong {
	var l []wrong
	for _, v := range append(words(), 7, 8) {
		for _, ahead := range []string{"S", "SB", "SF", "SF1", "SFFF", "SFFFF14352463"} {
			l = append(l, wrong{ahead, known(v), api.ErrForm})
		}
	}
	for _, x := range []struct {
		ahead string
		none  int // the first vertex that is not met
		p, q  int // the gate
	}{
		{"S", 3, 2, 0}, {"SB", 3, 1, 2}, {"SBB", 3, 0, 1},
		{"SF", 4, 3, 0}, {"SFB", 4, 2, 3}, {"SFBB", 4, 1, 2}, {"SF1", 4, 3, 1}, {"SF1BB", 4, 1, 2},
		{"SBBBS", 6, 5, 3}, {"SBBBSB", 6, 4, 5},
	} {
		l = append(l, wrong{x.ahead, known(x.none), api.ErrForm}, wrong{x.ahead, known(x.p), api.ErrForm}, wrong{x.ahead, known(x.q), api.ErrForm})
	}
	return l
}

// wrongEdge has a triangle of which one edge, or both, are there already.
func wrongEdge() []wrong {
	return []wrong{
		{"SF", known(2), api.ErrEdge},      // 0 3 2: 2 0 is an edge of the first
		{"SFF", known(3), api.ErrEdge},     // 0 4 3: 3 0 is one of the second
		{"SFFBBBB", known(3), api.ErrEdge}, // 1 0 3: 0 3 is one of the third
		{"SBF", known(1), api.ErrEdge},     // 2 3 1: 1 2 is one of the first
		{"SFFBBBB", known(4), api.ErrEdge}, // 1 0 4: 0 4 is a border
		{"SFBBB", known(3), api.ErrEdge},   // 1 0 3: 0 3 is a border
		{"SB", known(0), api.ErrEdge},      // 2 1 0: 0 2 is a border
		{"SBF", known(0), api.ErrEdge},     // 2 3 0: 0 2 is a border
		{"SBB", known(2), api.ErrEdge},     // 1 0 2: both are borders
		{"SF1", known(0), api.ErrEdge},     // 1 3 0: both are edges of triangles
		{"SFB", known(0), api.ErrEdge},     // 3 2 0: 2 0 is one of a triangle, 0 3 a border
		{"SFFBBBB", known(2), api.ErrEdge}, // 1 0 2: 0 2 is one of a triangle, 2 1 a border
		{"SBFBF0B", known(3), api.ErrEdge}, // 0 4 3: 4 3 is one of the last; 3 0 a border
	}
}

// TestWrong has each error told once and again, with nothing done by the step that has it, and nothing undone that is ahead of it.
func TestWrong(t *testing.T) {
	for _, x := range allWrong() {
		ahead := steps(x.ahead)
		before := grown(t, ahead)
		open, verts, tris := before.Open(), before.Verts(), before.Tris()
		g := grown(t, ahead)
		if e := g.Step(x.s); e != x.want {
			t.Errorf("%s, %v: %d, not %d", x.ahead, x.s, e, x.want)
		}
		has(t, x.ahead, g, open, verts, tris)
		ended(t, x.ahead, g, x.want)

		at := grow.New()
		all := append(append(slices.Clone(ahead), x.s), steps("SBBBFFF12")...)
		if e := at.Step(all...); e != x.want {
			t.Errorf("%s, %v, and others: %d, not %d", x.ahead, x.s, e, x.want)
		}
		has(t, x.ahead, at, open, verts, tris)
		ended(t, x.ahead, at, x.want)
		makes(t, x.ahead, all, nil, 0, x.want)
	}
}

// TestWrongByWords has the chapter's words tell the same of all that is wrong, and the first of two errors.
func TestWrongByWords(t *testing.T) {
	for _, x := range allWrong() {
		if e := follow(t, x.ahead, append(steps(x.ahead), x.s)); e != x.want {
			t.Errorf("%s, %v: %d, not %d", x.ahead, x.s, e, x.want)
		}
	}
}

// TestFirstError has the first thing that is wrong be told of several steps, whatever comes behind it.
func TestFirstError(t *testing.T) {
	for _, x := range []struct {
		l    []api.Step
		want api.Errno
	}{
		{[]api.Step{{}, known(9), known(2)}, api.ErrForm},
		{[]api.Step{{}, {Kind: api.Fresh}, known(2), {Kind: 7}}, api.ErrEdge},
		{[]api.Step{{}, {Kind: 7}, {Kind: api.Fresh}, known(2)}, api.ErrForm},
	} {
		makes(t, "several", x.l, nil, 0, x.want)
		g := grow.New()
		if e := g.Step(x.l...); e != x.want {
			t.Errorf("%v: %d, not %d", x.l, e, x.want)
		}
		ended(t, "several", g, x.want)
	}
}

// TestShut has shut gates lie below others, and be taken ahead of a step.
func TestShut(t *testing.T) {
	g := grown(t, steps("SF1")) // 0 1 and 1 0 are shut: one at the pile's end, one at its beginning
	has(t, "both", g, 3, 4, [][3]int{{0, 1, 2}, {0, 2, 3}, {0, 3, 1}})
	for i, s := range steps("BBB") { // 3 1, 2 3, 1 2
		if e := g.Step(s); e != api.OK || g.Open() != 2-i {
			t.Error(i, e, g.Open())
		}
	}
	closes(t, "a shut one is left", g, [][3]int{{0, 1, 2}, {0, 2, 3}, {0, 3, 1}}, api.OK)
	if e := g.Step(steps("SBBB")...); e != api.OK {
		t.Error("Seed behind shut gates", e)
	}
	closes(t, "two pieces", g, [][3]int{{0, 1, 2}, {0, 2, 3}, {0, 3, 1}, {4, 5, 6}}, api.OK)
	h := grown(t, steps("SF1BBB"))
	if e := h.Step(steps("B")...); e != api.ErrForm {
		t.Error("Border of a shut gate", e)
	}
}

// TestNotAtEnd has Close tell of gates that are not shut, and go on nevertheless: it is no step's error.
func TestNotAtEnd(t *testing.T) {
	for _, x := range allByHand() {
		l := steps(x.steps)
		for to := range l {
			g := grown(t, l[:to])
			if x.steps[to] == 'S' { // ahead of it there is no gate
				tris := g.Tris()
				closes(t, x.steps, g, tris, api.OK)
				makes(t, x.steps, l[:to], tris, g.Verts(), api.OK)
			} else {
				closes(t, x.steps, g, nil, api.ErrShort)
				makes(t, x.steps, l[:to], nil, 0, api.ErrShort)
			}
			if e := g.Step(l[to:]...); e != api.OK {
				t.Errorf("%s: %d behind Close", x.steps, e)
			}
			closes(t, x.steps, g, x.tris, api.OK)
		}
	}
}

// TestNoSurface has triangles of which no two have an edge in common, and which are none yet: mesh.Check tells so.
func TestNoSurface(t *testing.T) {
	for _, x := range []struct {
		steps string
		verts int
		tris  [][3]int
	}{
		{"SBFBF0BBBB", 5, [][3]int{{0, 1, 2}, {2, 1, 3}, {3, 1, 4}, {3, 4, 0}}},                // two fans at 0
		{"SBBBSBFBF3BBBB", 8, [][3]int{{0, 1, 2}, {3, 4, 5}, {5, 4, 6}, {6, 4, 7}, {6, 7, 3}}}, // behind another piece
	} {
		g := grown(t, steps(x.steps))
		has(t, x.steps, g, 0, x.verts, x.tris)
		closes(t, x.steps, g, nil, api.ErrVertex)
		makes(t, x.steps, steps(x.steps), nil, 0, api.ErrVertex)
		has(t, x.steps, g, 0, x.verts, x.tris)
		if e := g.Step(); e != api.OK {
			t.Errorf("%s: a step's error: %d", x.steps, e)
		}
		if e := g.Step(steps("SB")...); e != api.OK {
			t.Errorf("%s: %d", x.steps, e)
		}
		closes(t, x.steps, g, nil, api.ErrShort) // ahead of what mesh.Check tells
	}
}

// TestAllSmall has all rows of up to nine steps, and all that may not be behind one of them.
func TestAllSmall(t *testing.T) {
	count := map[api.Errno]int{}
	var more func(l []api.Step, ahead *byWords)
	more = func(l []api.Step, ahead *byWords) {
		for _, s := range ahead.all() {
			want := ahead.copy()
			we := want.step(s)
			g := grow.New()
			next := append(slices.Clone(l), s)
			if e := g.Step(next...); e != we {
				t.Errorf("%v: %d, not %d", next, e, we)
			}
			agree(t, "small", g, want)
			count[we]++
			if tris, e := want.close(); e != api.OK {
				count[e]++
				makes(t, "small", next, nil, 0, e)
			} else {
				makes(t, "small", next, tris, want.verts, e)
				toldByWalk(t, next, tris, want.verts)
			}
			if we == api.OK && len(next) < 9 {
				more(next, want)
			}
		}
	}
	more(nil, &byWords{})
	for _, e := range []api.Errno{api.OK, api.ErrForm, api.ErrEdge, api.ErrShort} {
		if count[e] < 1000 {
			t.Error(count)
		}
	}
}

// toldByWalk fails unless a walk over these triangles tells these steps.
func toldByWalk(t *testing.T, l []api.Step, tris [][3]int, verts int) {
	t.Helper()
	if told, e := walk.Steps(flat(verts, tris)); e != api.OK || !slices.Equal(told, l) {
		t.Errorf("%v: a walk tells %v, %d", brief(l), brief(told), e)
	}
	if !walk.Is(flat(verts, tris)) {
		t.Errorf("%v: no canon: %v", brief(l), brief(tris))
	}
}

// TestDrawn has long rows of steps; what they make is told by a walk in the same steps.
func TestDrawn(t *testing.T) {
	r := rand.New(rand.NewSource(121))
	count := map[api.Errno]int{}
	for i := range 600 {
		l := drawn(r, r.Intn(5+i/10))
		e := follow(t, "drawn", l)
		count[e]++
		if e == api.OK {
			tris, verts, _ := grow.All(l...)
			toldByWalk(t, l, tris, verts)
		}
	}
	if len(count) != 2 || count[api.OK] < 100 || count[api.ErrVertex] < 100 {
		t.Error(count)
	}
}

// TestDrawnErrors has one step of a long row changed.
func TestDrawnErrors(t *testing.T) {
	r := rand.New(rand.NewSource(122))
	count := map[api.Errno]int{}
	for range 1500 {
		l := drawn(r, r.Intn(25))
		if len(l) == 0 {
			continue
		}
		i := r.Intn(len(l))
		l[i].Kind = r.Intn(4)
		l[i].V = 0
		if l[i].Kind == api.Known {
			l[i].V = r.Intn(9)
		}
		count[follow(t, "changed", l)]++
	}
	for _, e := range []api.Errno{api.OK, api.ErrForm, api.ErrEdge, api.ErrShort} {
		if count[e] < 50 {
			t.Error(count)
		}
	}
}

// TestAny has steps of any words at all, or nearly so.
func TestAny(t *testing.T) {
	r := rand.New(rand.NewSource(123))
	word := func() int { return int(r.Uint64()) >> r.Intn(64) }
	for range 3000 {
		l := drawn(r, r.Intn(8))
		for range r.Intn(4) {
			s := api.Step{Kind: r.Intn(4)}
			switch r.Intn(4) {
			case 0:
				s = api.Step{Kind: word(), V: word()}
			case 1:
				s.V = word()
			}
			l = slices.Insert(l, r.Intn(len(l)+1), s)
		}
		follow(t, "any", l)
	}
}

// TestTogether has the same steps in one call, one by one, and cut anywhere.
func TestTogether(t *testing.T) {
	r := rand.New(rand.NewSource(124))
	for range 200 {
		l := drawn(r, r.Intn(30))
		if len(l) > 0 && r.Intn(2) == 0 {
			l[r.Intn(len(l))].V++
		}
		var want byWords
		we := want.step(l...)
		g := grow.New()
		if e := g.Step(l...); e != we {
			t.Errorf("%v: %d, not %d", l, e, we)
		}
		agree(t, "together", g, &want)
		cut := grow.New()
		for rest := l; ; {
			n := r.Intn(len(rest) + 1)
			cut.Step(rest[:n]...)
			rest = rest[n:]
			if len(rest) == 0 {
				break
			}
		}
		agree(t, "cut", cut, &want)
	}
}

// canon fails unless what a walk over m tells is grown to its canon.
func canon(t *testing.T, name string, m api.Mesh) {
	t.Helper()
	l, e1 := walk.Steps(m)
	c, e2 := walk.Canon(m)
	if e1 != api.OK || e2 != api.OK {
		t.Fatalf("%s: %v: %d, %d", name, brief(m.T), e1, e2)
	}
	makes(t, name, l, c.T, len(m.P), api.OK)
	toldByWalk(t, l, c.T, len(m.P))
}

func TestCanon(t *testing.T) {
	r := rand.New(rand.NewSource(125))
	for _, m := range surfaces() {
		canon(t, "a surface", m)
		for range 30 {
			canon(t, "shuffled", shuffled(r, m))
			canon(t, "fewer", shuffled(r, fewer(r, m)))
		}
	}
	for range 300 {
		if tris, verts, e := grow.All(drawn(r, r.Intn(20))...); e == api.OK {
			canon(t, "drawn", shuffled(r, flat(verts, tris)))
		}
	}
}

// full are the steps of a surface with as many triangles as there may be, up to its last triangle: one gate is left then, 0 1.
func full(t *testing.T) []api.Step {
	t.Helper()
	m := joined(torus(2001), torus(2001)) // two triangles more than there may be
	behind := slices.IndexFunc(m.T, func(tri [3]int) bool {
		return (&byWords{tris: [][3]int{tri}}).has(m.T[0][1], m.T[0][0])
	})
	l, e := walk.Steps(without(m, behind, 2000))
	if e != api.OK || len(m.T) != api.MaxTris+2 {
		t.Fatal(e, len(m.T))
	}
	last := slices.IndexFunc(reversed(l), func(s api.Step) bool { return s.Kind != api.Border })
	return l[:len(l)-last]
}

func reversed(l []api.Step) []api.Step {
	l = slices.Clone(l)
	slices.Reverse(l)
	return l
}

// then fails unless each of these steps, behind those ahead, is told this.
func then(t *testing.T, ahead []api.Step, want api.Errno, l ...api.Step) {
	t.Helper()
	for _, s := range l {
		g := grown(t, ahead)
		open, verts, tris := g.Open(), g.Verts(), g.Tris()
		if e := g.Step(s); e != want {
			t.Errorf("%v: %d, not %d", s, e, want)
		}
		if want != api.OK {
			has(t, "too many", g, open, verts, tris)
			ended(t, "too many", g, want)
		}
	}
}

// TestMaxTris has as many triangles as may be, and a gate: a wrong form is told first, then that they are too many, then what a Known is.
func TestMaxTris(t *testing.T) {
	l := full(t)
	g := grown(t, l)
	if len(g.Tris()) != api.MaxTris || g.Verts() != api.MaxVerts-1 || g.Open() != 1 {
		t.Fatal(len(g.Tris()), g.Verts(), g.Open())
	}
	then(t, l, api.ErrForm, api.Step{}, api.Step{V: 1}, api.Step{Kind: api.Border, V: 1}, api.Step{Kind: api.Fresh, V: 1}, api.Step{Kind: 4})
	then(t, l, api.ErrLong, api.Step{Kind: api.Fresh}, known(2000))
	then(t, l, api.ErrLong, known(-1), known(3999), known(0), known(1), known(2))
	then(t, l, api.OK, api.Step{Kind: api.Border})
	if e := g.Step(api.Step{Kind: api.Border}); e != api.OK {
		t.Error(e)
	}
	if tris, e := g.Close(); e != api.OK || len(tris) != api.MaxTris {
		t.Error(len(tris), e)
	}
}

// TestMaxTrisClosed has as many triangles as may be, and no gate.
func TestMaxTrisClosed(t *testing.T) {
	l, _ := walk.Steps(torus(api.MaxVerts))
	then(t, l, api.ErrLong, api.Step{})
	then(t, l, api.ErrForm, api.Step{V: 1}, api.Step{Kind: api.Border}, api.Step{Kind: api.Fresh}, known(0), known(4000), api.Step{Kind: 4})
}

// TestLastTriangle has the last triangle that may be, made by each kind of step that makes one.
func TestLastTriangle(t *testing.T) {
	l := full(t)
	last := len(l) - 1
	if l[last].Kind != api.Known {
		t.Fatal(l[last])
	}
	ahead := l[:last]
	then(t, ahead, api.OK, l[last], api.Step{Kind: api.Fresh}, api.Step{Kind: api.Border})
	then(t, ahead, api.ErrForm, known(-1), known(3999), api.Step{})

	m := joined(joined(torus(1335), torus(1334)), torus(1334))
	one, e1 := walk.Steps(without(m, 0, 700, 1400))
	none, e2 := walk.Steps(without(m, 0, 700))
	if e1 != api.OK || e2 != api.OK || len(m.P) != api.MaxVerts-3 || len(m.T) != api.MaxTris+2 {
		t.Fatal(e1, e2, len(m.P), len(m.T))
	}
	then(t, one, api.OK, api.Step{})
	then(t, none, api.ErrLong, api.Step{})
}

// pieces are the steps of so many triangles, none of which have anything in common.
func pieces(n int) []api.Step {
	return slices.Repeat(steps("SBBB"), n)
}

// TestMaxVerts has as many vertices as may be, or few fewer, with a gate and without one.
func TestMaxVerts(t *testing.T) {
	seed, fresh := api.Step{}, api.Step{Kind: api.Fresh}
	for _, x := range []struct {
		verts int
		l     []api.Step
		want  api.Errno
	}{
		{3996, pieces(1332), api.OK},
		{3997, append(pieces(1331), steps("SFBBBB")...), api.OK},
		{3998, append(pieces(1331), steps("SFFBBBBB")...), api.ErrLong},
		{3999, pieces(1333), api.ErrLong},
		{4000, append(pieces(1332), steps("SFBBBB")...), api.ErrLong},
	} {
		if n := grown(t, x.l).Verts(); n != x.verts {
			t.Errorf("%d, not %d", n, x.verts)
		}
		then(t, x.l, x.want, seed)
		then(t, x.l, api.ErrForm, fresh, known(0), api.Step{V: 1})
	}
	l := append(pieces(1332), seed) // 3999
	then(t, l, api.OK, fresh)
	l = append(l, fresh) // 4000
	then(t, l, api.ErrLong, fresh)
	then(t, l, api.ErrForm, seed, api.Step{Kind: api.Fresh, V: 1}, known(4000), known(3996), known(3999), known(-1), api.Step{Kind: 4})
	then(t, l, api.ErrEdge, known(3998))
	then(t, l, api.OK, known(3997), known(0), api.Step{Kind: api.Border})
}

// TestMost has surfaces as great as may be.
func TestMost(t *testing.T) {
	r := rand.New(rand.NewSource(126))
	for _, m := range []api.Mesh{
		torus(api.MaxVerts),
		band(api.MaxVerts - 2),
		wheel(api.MaxVerts - 1),
		ball(api.MaxVerts - 2),
		without(joined(torus(2001), torus(2001)), 0, 2000),
		beside(slices.Repeat([]api.Mesh{band(1)}, api.MaxVerts/3)...),
	} {
		canon(t, "most", shuffled(r, m))
	}
}

// TestNil has no grower in each call.
func TestNil(t *testing.T) {
	var g *grow.Grower
	for _, l := range [][]api.Step{nil, {}, steps("S"), steps("SBBB"), {{Kind: -1}}, {known(5), {}}} {
		if e := g.Step(l...); e != api.ErrNil {
			t.Errorf("Step of %v: %d", l, e)
		}
	}
	has(t, "none", g, 0, 0, nil)
	closes(t, "none", g, nil, api.ErrNil)
}

// TestZero has a grower that New did not make be one that has nothing yet.
func TestZero(t *testing.T) {
	for _, x := range allByHand() {
		var g grow.Grower
		has(t, "zero", &g, 0, 0, nil)
		closes(t, "zero", &g, nil, api.OK)
		if e := g.Step(steps(x.steps)...); e != api.OK {
			t.Errorf("%s: %d", x.steps, e)
		}
		closes(t, x.steps, &g, x.tris, api.OK)
	}
	var g grow.Grower
	if e := g.Step(steps("SSBBB")...); e != api.ErrForm {
		t.Error(e)
	}
	ended(t, "zero", &g, api.ErrForm)
}

// roomy is l with room behind it, and something there that is nobody's to change.
func roomy(l []api.Step) []api.Step {
	to := slices.Clone(l)
	for i := range 9 {
		to = append(to, api.Step{Kind: 70 + i, V: 7})
	}
	return to[:len(l)]
}

// overwrite changes all of l, and all of the room behind it.
func overwrite[E any](l []E, with E) {
	for i := range l[:cap(l)] {
		l[:cap(l)][i] = with
	}
}

// TestHandedIn has steps stay as they were, in the room behind them too; and what they made stay, when they are changed.
func TestHandedIn(t *testing.T) {
	r := rand.New(rand.NewSource(127))
	for range 100 {
		given := drawn(r, 30)
		if r.Intn(3) == 0 {
			given = append(given, known(-1), api.Step{})
		}
		var want byWords
		want.step(given...)
		l := roomy(given)
		g := grow.New()
		g.Step(l...)
		grow.All(l...)
		if again := roomy(given); !slices.Equal(l[:len(l)+9], again[:len(l)+9]) {
			t.Errorf("%v: changed: %v", given, l)
		}
		overwrite(l, api.Step{Kind: -7, V: -7})
		agree(t, "behind what was changed", g, &want)
	}
}

// TestHandedOut has all that comes out be changed, room and all, and written behind: nothing else changes.
func TestHandedOut(t *testing.T) {
	r := rand.New(rand.NewSource(128))
	for range 60 {
		given := drawn(r, 30)
		var want byWords
		g := grow.New()
		for _, s := range append(given, steps("SFBBB")...) {
			l1, l2 := g.Tris(), g.Tris()
			c1, _ := g.Close()
			c2, _ := g.Close()
			kept := slices.Clone(l2)
			keptToo := slices.Clone(c2)
			overwrite(l1, [3]int{-7, -7, -7})
			overwrite(c1, [3]int{-8, -8, -8})
			_ = append(l1, [3]int{-9})
			g.Step(s)
			want.step(s)
			if !slices.Equal(l2, kept) || !slices.Equal(c2, keptToo) {
				t.Errorf("%v: %v %v", given, l2, c2)
			}
			agree(t, "behind what was changed", g, &want)
		}
		l1, _, _ := grow.All(given...)
		l2, n2, e2 := grow.All(given...)
		overwrite(l1, [3]int{-7, -7, -7})
		makes(t, "All", given, l2, n2, e2)
	}
}

// TestTwo has two growers that are told steps by turns.
func TestTwo(t *testing.T) {
	r := rand.New(rand.NewSource(129))
	for range 60 {
		a, b := drawn(r, 30), append(drawn(r, 20), known(-1))
		var wantA, wantB byWords
		g, h := grow.New(), grow.New()
		for i := range max(len(a), len(b)) {
			if i < len(a) {
				g.Step(a[i])
				wantA.step(a[i])
			}
			if i < len(b) {
				h.Step(b[i])
				wantB.step(b[i])
			}
			agree(t, "the one", g, &wantA)
			agree(t, "the other", h, &wantB)
		}
	}
}

func TestExamples(t *testing.T) {
	seed, border := api.Step{Kind: api.Seed}, api.Step{Kind: api.Border}
	if l, n, e := grow.All(seed, border, border, border); e != api.OK || n != 3 || !slices.Equal(l, [][3]int{{0, 1, 2}}) {
		t.Error(l, n, e)
	}
	if l, n, e := grow.All(seed); e != api.ErrShort || n != 0 || len(l) != 0 {
		t.Error(l, n, e)
	}
}
