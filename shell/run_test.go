package shell_test

import (
	"fmt"
	"math/rand"
	"slices"
	"strings"
	"testing"

	"larch/api"
	"larch/event"
	"larch/judge"
	"larch/model"
	"larch/play"
	"larch/shell"
	"larch/table"
	"larch/weigh"
)

// examples: those of the whole; a text, and its replies.
var examples = [][2]string{
	{lines("thread", "put 1 10", "thread", "get 1", "pick 0 200", "pick 1 50"), lines("t0 put 1 10", "t0 put 1 10 -> no 0", "t1 get 1", "t1 get 1 -> yes 10", "t0 ended", "t1 ended", "1:10")},
	{lines("thread", "put 1 10", "thread", "get 1", "pick 1 50", "pick 0 200"), lines("t1 get 1", "t1 get 1 -> no 0", "t0 put 1 10", "t0 put 1 10 -> no 0", "t0 ended", "t1 ended", "1:10")},
	{lines("start 5 50", "thread", "put 1 10", "thread", "min", "pick 0"), lines("t0 put 1 10", "t0 runs", "t1 waits", "5:50")},
	{
		lines("start 5 50", "start 2 20", "thread", "after 2", "before 2", "range 0 9", "max", "min", "ifabsent 2 7", "ifabsent 3 30", "delete 5", "delete 5", "get 3", "put 3 31", "pick 0 5000"),
		lines("t0 after 2", "t0 after 2 -> yes 5:50", "t0 before 2", "t0 before 2 -> no 0:0", "t0 range 0 9", "t0 range 0 9 -> yes 2:20 5:50", "t0 max", "t0 max -> yes 5:50", "t0 min", "t0 min -> yes 2:20", "t0 ifabsent 2 7", "t0 ifabsent 2 7 -> no 20", "t0 ifabsent 3 30", "t0 ifabsent 3 30 -> yes 0", "t0 delete 5", "t0 delete 5 -> yes 50", "t0 delete 5", "t0 delete 5 -> no 0", "t0 get 3", "t0 get 3 -> yes 30", "t0 put 3 31", "t0 put 3 31 -> yes 30", "t0 ended", "2:20", "3:31"),
	},
	{lines("start 1 1", "thread", "get 1", "pick 7 3", "pick -1"), lines("t0 waits", "1:1")},
	{lines("thread", "thread", "range 5 1", "pick 1 40"), lines("t1 range 5 1", "t1 range 5 1 -> yes", "t0 ended", "t1 ended")},
	{
		lines("start 9223372036854775807 1", "start -9223372036854775808 2", "thread", "after 9223372036854775807", "before -9223372036854775808", "after 9223372036854775806", "pick 0 500"),
		lines("t0 after 9223372036854775807", "t0 after 9223372036854775807 -> no 0:0", "t0 before -9223372036854775808", "t0 before -9223372036854775808 -> no 0:0", "t0 after 9223372036854775806", "t0 after 9223372036854775806 -> yes 9223372036854775807:1", "t0 ended", "-9223372036854775808:2", "9223372036854775807:1"),
	},
	{lines("thread", "get 1", "gett 2"), lines("line 3 text")},
	{lines("start 1 1"), lines("refused 1")},
	{lines("start 1 1", "start 1 2", "thread"), lines("t0 ended", "1:2")},
}

func TestExamplesOfTheWhole(t *testing.T) { // P28.4
	for i, x := range examples {
		if got := shell.Run(x[0]); got != x[1] {
			t.Errorf("example %d: %q, want %q", i+1, got, x[1])
		}
		if got := shell.Run(strings.TrimSuffix(x[0], "\n")); got != x[1] {
			t.Errorf("example %d without its last line end: %q, want %q", i+1, got, x[1])
		}
	}
}

// refusals: texts that aren't played.
func refusals() map[string]string {
	return map[string]string{
		"x": "line 1 text\n", "\n\nthread\nget\n": "line 4 text\n", "pick 0 1000001": "line 1 text\n", "thread\nstart 1 2": "line 2 text\n", strings.Repeat("#\n", 999) + "max": "line 1000 text\n",
		"": "refused 1\n", "\n": "refused 1\n", "# thread": "refused 1\n", "start 1 1": "refused 1\n", "pick 0 5": "refused 1\n",
		strings.Repeat("thread\n", 65):                                               "refused 1\n",
		"thread\n" + strings.Repeat("min\n", 1001):                                   "refused 2\n",
		strings.Repeat("start 1 1\n", 1001) + "thread\n":                             "refused 2\n",
		strings.Repeat("start 1 1\n", 1001):                                          "refused 2\n",
		strings.Repeat("thread\n", 65) + strings.Repeat("min\n", 1001):               "refused 1\n",
		strings.Repeat("start 1 1\n", 1001) + strings.Repeat("thread\n", 65):         "refused 2\n",
		strings.Repeat("start 1 1\n", 1001) + strings.Repeat("thread\n", 65) + "\nx": "line 1068 text\n",
	}
}

func TestTextsThatAreNotPlayed(t *testing.T) { // P28.4, P28.5
	for text, want := range refusals() {
		if got := shell.Run(text); got != want {
			t.Errorf("Run(%.60q) = %q, want %q", text, got, want)
		}
		if got := shell.Verdict(text); got != want {
			t.Errorf("Verdict(%.60q) = %q, want %q", text, got, want)
		}
		if g, _, e := shell.Parse(text); e == api.OK && want != fmt.Sprintf("refused %d\n", play.Check(g)) {
			t.Errorf("%.60q: play.Check answers %d", text, play.Check(g))
		}
	}
}

func TestMostThatIsPlayed(t *testing.T) { // P28.4
	text := strings.Repeat("start 1 1\n", 1000) + strings.Repeat("thread\n", 63) + "thread\n" + strings.Repeat("get 1\n", 1000) + "pick 63 1000000\n"
	want := strings.Repeat("t63 get 1\nt63 get 1 -> yes 1\n", 1000)
	for thread := range 64 {
		want += fmt.Sprintf("t%d ended\n", thread)
	}
	if got := shell.Run(text); got != want+"1:1\n" {
		t.Errorf("Run = %.200q..", got)
	}
}

// naiveRun: by what play.Run answers.
func naiveRun(g play.Game) string {
	p, e := play.Run(g)
	if e != api.OK {
		return fmt.Sprintf("refused %d\n", e)
	}
	var all []string
	for _, e := range p.History {
		all = append(all, naiveTell(e))
	}
	calls, _ := event.Calls(p.History)
	for thread, ended := range p.Ended {
		runs := slices.ContainsFunc(calls, func(c event.Call) bool { return c.Thread == thread && c.To < 0 })
		switch {
		case ended:
			all = append(all, fmt.Sprintf("t%d ended", thread))
		case runs:
			all = append(all, fmt.Sprintf("t%d runs", thread))
		default:
			all = append(all, fmt.Sprintf("t%d waits", thread))
		}
	}
	pairs, _ := table.Pairs(p.Table)
	for _, pair := range pairs {
		all = append(all, fmt.Sprintf("%d:%d", pair.Key, pair.Val))
	}
	return lines(all...)
}

// naiveVerdict: of a game that can be played.
func naiveVerdict(g play.Game) string {
	p, _ := play.Run(g)
	order := "no"
	if is, e := judge.Order(g.Start, p.History); e != api.OK {
		order = fmt.Sprint(int(e))
	} else if is {
		order = "yes"
	}
	calls, _ := event.Calls(p.History)
	pending := 0
	for _, c := range calls {
		if c.To < 0 && model.Changes(c.Op.Kind) {
			pending++
		}
	}
	did := 0
	for _, s := range p.Steps {
		if s.Kind >= api.Start {
			did++
		}
	}
	faults, _ := weigh.Violations(p.Table)
	deep, _ := weigh.Deep(p.Table)
	pairs, _ := table.Pairs(p.Table)
	bound, _ := weigh.Bound(len(pairs))
	return fmt.Sprintf("order %s\nviolations %d of %d\nheight %d of %d\nkeys %d\npicks %d\n", order, faults, pending, deep, bound, len(pairs), did)
}

// TestRunByChance: games in which threads have ended, run and wait.
func TestRunByChance(t *testing.T) { // P28.4, P28.5
	r := rand.New(rand.NewSource(6))
	seen := map[string]int{}
	for range 1500 {
		g := someGame(r, 4, 3, 10+r.Intn(300))
		text := naivePrint(g)
		got := shell.Run(text)
		if want := naiveRun(plainGame(g)); got != want {
			t.Fatalf("Run(%q) = %q, want %q", text, got, want)
		}
		if again := shell.Run(text); again != got {
			t.Fatalf("Run(%q), asked again = %q, first %q", text, again, got)
		}
		for _, state := range []string{" ended\n", " runs\n", " waits\n", "refused"} {
			if strings.Contains(got, state) {
				seen[state]++
			}
		}
		if len(g.Scripts) == 0 {
			continue
		}
		if got, want := shell.Verdict(text), naiveVerdict(plainGame(g)); got != want {
			t.Fatalf("Verdict(%q) = %q, want %q", text, got, want)
		}
	}
	for _, state := range []string{" ended\n", " runs\n", " waits\n", "refused"} {
		if seen[state] < 100 {
			t.Errorf("%q was seen %d times", state, seen[state])
		}
	}
}

// TestStates: a thread whose operation has returned, and that has one left, waits as one that has begun none.
func TestStates(t *testing.T) { // P28.4
	text := lines("start 1 1", "thread", "range 2 1", "put 2 2", "thread", "get 1", "thread", "thread", "min", "max")
	for picks, want := range map[string]string{
		"":                              lines("t0 waits", "t1 waits", "t2 ended", "t3 waits", "1:1"),
		"pick 0\n":                      lines("t0 range 2 1", "t0 range 2 1 -> yes", "t0 waits", "t1 waits", "t2 ended", "t3 waits", "1:1"),
		"pick 1\npick 0\n":              lines("t1 get 1", "t0 range 2 1", "t0 range 2 1 -> yes", "t0 waits", "t1 runs", "t2 ended", "t3 waits", "1:1"),
		"pick 0 2\npick 2 9\npick 4\n":  lines("t0 range 2 1", "t0 range 2 1 -> yes", "t0 put 2 2", "t0 runs", "t1 waits", "t2 ended", "t3 waits", "1:1"),
		"pick 1 99\npick 3 0\npick 3\n": lines("t1 get 1", "t1 get 1 -> yes 1", "t3 min", "t0 waits", "t1 ended", "t2 ended", "t3 runs", "1:1"),
		"pick 0 500\npick 3 500\n":      lines("t0 range 2 1", "t0 range 2 1 -> yes", "t0 put 2 2", "t0 put 2 2 -> no 0", "t3 min", "t3 min -> yes 1:1", "t3 max", "t3 max -> yes 2:2", "t0 ended", "t1 waits", "t2 ended", "t3 ended", "1:1", "2:2"),
	} {
		if got := shell.Run(text + picks); got != want {
			t.Errorf("%q: %q, want %q", picks, got, want)
		}
	}
}

func TestVerdict(t *testing.T) { // P28.5
	for text, want := range map[string]string{
		lines("thread", "put 1 10", "pick 0"): "order yes\nviolations 0 of 1\nheight 1 of 6\nkeys 0\npicks 1\n",
		lines("thread"):                       "order yes\nviolations 0 of 0\nheight 1 of 6\nkeys 0\npicks 0\n",
		lines("start 1 1", "start 2 2", "thread", "get 1", "pick 0 0", "pick 5 7"):                                                            "order yes\nviolations 0 of 0\nheight 3 of 8\nkeys 2\npicks 0\n",
		lines("thread", "range 2 1", "range 2 1", "pick 0", "pick 1 3", "pick 0 4"):                                                           "order yes\nviolations 0 of 0\nheight 1 of 6\nkeys 0\npicks 2\n",
		lines("thread", "put 1 1", "thread", "delete 1", "thread", "ifabsent 1 1", "thread", "get 1", "pick 0", "pick 1", "pick 2", "pick 3"): "order yes\nviolations 0 of 3\nheight 1 of 6\nkeys 0\npicks 4\n",
	} {
		if got := shell.Verdict(text); got != want {
			t.Errorf("Verdict(%q) = %q, want %q", text, got, want)
		}
	}
	first := shell.Verdict(examples[0][0])
	p, _ := play.Run(play.Game{Scripts: [][]api.Op{{{Kind: api.Put, Key: 1, Val: 10}}, {{Kind: api.Get, Key: 1}}}, Picks: append(make([]int, 200), slices.Repeat([]int{1}, 50)...)})
	did := slices.DeleteFunc(p.Steps, func(s api.Step) bool { return s.Kind == -1 })
	if want := fmt.Sprintf("order yes\nviolations 0 of 0\nheight 2 of 8\nkeys 1\npicks %d\n", len(did)); first != want || len(did) > 250 {
		t.Errorf("Verdict of the first example = %q, want %q", first, want)
	}
}

// TestVerdictOfManyOperations: eight can be searched, nine can't, be they pending or returned.
func TestVerdictOfManyOperations(t *testing.T) { // P28.5
	for ops, want := range map[int]string{0: "order yes\n", 1: "order yes\n", 8: "order yes\n", 9: "order 2\n", 30: "order 2\n"} {
		text := "thread\n" + strings.Repeat("get 1\n", ops) + "pick 0 900\n"
		if got := shell.Verdict(text); !strings.HasPrefix(got, want) || !strings.Contains(got, "\nviolations 0 of 0\nheight 1 of 6\nkeys 0\npicks ") {
			t.Errorf("Verdict of %d operations = %q", ops, got)
		}
	}
	var pending strings.Builder
	for range 9 {
		pending.WriteString("thread\nput 1 1\n")
	}
	for thread := range 9 {
		text := pending.String()
		for other := range thread + 1 {
			text += fmt.Sprintf("pick %d\n", other)
		}
		want := fmt.Sprintf("order yes\nviolations 0 of %d\nheight 1 of 6\nkeys 0\npicks %d\n", thread+1, thread+1)
		if thread == 8 {
			want = strings.Replace(want, "yes", "2", 1)
		}
		if got := shell.Verdict(text); got != want {
			t.Errorf("Verdict of %d pending operations = %q, want %q", thread+1, got, want)
		}
	}
}

// TestVerdictsAreGood: of every game an order is found, and no more is owed than may be.
func TestVerdictsAreGood(t *testing.T) { // P28.5
	r := rand.New(rand.NewSource(7))
	for range 300 {
		g := someGame(r, 4, 2, 200)
		g.Scripts = append(g.Scripts, nil)
		text, _ := shell.Print(g)
		var violations, pending, height, bound, keys, picks int
		n, err := fmt.Sscanf(shell.Verdict(text), "order yes\nviolations %d of %d\nheight %d of %d\nkeys %d\npicks %d\n", &violations, &pending, &height, &bound, &keys, &picks)
		if n != 6 || err != nil || violations > pending || pending == 0 && height > bound || picks > len(g.Picks) {
			t.Errorf("Verdict(%q) = %q", text, shell.Verdict(text))
		}
	}
}

// TestAnyBytes: no text makes a call panic, and each has a reply.
func TestAnyBytes(t *testing.T) { // P28.4, P28.5
	r := rand.New(rand.NewSource(8))
	for range 5000 {
		bytes := make([]byte, r.Intn(60))
		for i := range bytes {
			bytes[i] = byte(r.Intn(256) >> r.Intn(4))
		}
		text := string(bytes)
		if got := shell.Run(text); got != shell.Verdict(text) || !strings.HasSuffix(got, "\n") {
			t.Errorf("Run(%q) = %q", text, got)
		}
	}
}
