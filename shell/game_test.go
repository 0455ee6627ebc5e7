package shell_test

import (
	"math/rand"
	"slices"
	"strconv"
	"strings"
	"testing"

	"larch/api"
	"larch/play"
	"larch/shell"
)

func TestPrint(t *testing.T) { // P28.2
	min := api.Op{Kind: api.Min, Key: 9, Val: 8, Hi: 7}
	for i, c := range []struct {
		g    play.Game
		want string
	}{
		{play.Game{}, ""}, {play.Game{Start: []api.Pair{}, Scripts: [][]api.Op{}, Picks: []int{}}, ""},
		{play.Game{Start: []api.Pair{{Key: -5, Val: 1}}, Scripts: [][]api.Op{{{Kind: api.Put, Key: 1, Val: 2, Hi: 77}, min}, nil}, Picks: []int{0, 0, 0, 1, -3, 0}}, "start -5 1\nthread\nput 1 2\nmin\nthread\npick 0 3\npick 1\npick -3\npick 0\n"},
		{play.Game{Start: []api.Pair{{Key: 3, Val: 1}, {Key: 1, Val: 2}, {Key: 3, Val: 4}, {Key: most, Val: least}}}, "start 3 1\nstart 1 2\nstart 3 4\nstart 9223372036854775807 -9223372036854775808\n"},
		{play.Game{Scripts: [][]api.Op{nil, {}, {min}, nil}}, "thread\nthread\nthread\nmin\nthread\n"},
		{play.Game{Picks: []int{most}}, "pick 9223372036854775807\n"}, {play.Game{Picks: []int{least, least}}, "pick -9223372036854775808 2\n"}, {play.Game{Picks: []int{1, 2, 1, 2, 2, 1, 1}}, "pick 1\npick 2\npick 1\npick 2 2\npick 1 2\n"},
		{play.Game{Scripts: [][]api.Op{{min}}, Picks: make([]int, api.MaxPicks)}, "thread\nmin\npick 0 1000000\n"},
	} {
		if got, e := shell.Print(c.g); got != c.want || e != api.OK {
			t.Errorf("row %d: Print = %q, %d, want %q", i, got, e, c.want)
		}
	}
}

func TestPrintOfManyThreads(t *testing.T) { // P28.2: it need not be a game that can be played
	g := play.Game{Start: make([]api.Pair, 1200), Scripts: make([][]api.Op, 70), Picks: []int{99}}
	g.Scripts[69] = slices.Repeat([]api.Op{{Kind: api.Max}}, 1100)
	got, e := shell.Print(g)
	if want := strings.Repeat("start 0 0\n", 1200) + strings.Repeat("thread\n", 70) + strings.Repeat("max\n", 1100) + "pick 99\n"; got != want || e != api.OK {
		t.Errorf("Print = %.80q.., %d", got, e)
	}
	if h, n, e := shell.Parse(got); !sameGame(h, g) || n != 0 || e != api.OK {
		t.Errorf("Parse of it: %d, %d", n, e)
	}
}

func TestPrintThatIsRefused(t *testing.T) { // P28.2
	many := make([]int, api.MaxPicks+1)
	for _, kind := range []int{0, -1, 10, least, most} {
		odd := []api.Op{{Kind: api.Get}, {Kind: kind, Key: 1}}
		for _, g := range []play.Game{{Scripts: [][]api.Op{odd}}, {Scripts: [][]api.Op{nil, {{Kind: api.Min}}, odd[1:]}}, {Start: []api.Pair{{}}, Scripts: [][]api.Op{odd}, Picks: many}} {
			if got, e := shell.Print(g); got != "" || e != api.ErrKind {
				t.Errorf("Print with kind %d = %q, %d", kind, got, e)
			}
		}
	}
	if got, e := shell.Print(play.Game{Scripts: [][]api.Op{{{Kind: api.Max}}}, Picks: many}); got != "" || e != api.ErrBig {
		t.Errorf("Print of too many picks = %.40q, %d", got, e)
	}
}

func TestParse(t *testing.T) { // P28.2
	get := []api.Op{{Kind: api.Get, Key: 1}}
	whole := play.Game{Start: []api.Pair{{Key: 5, Val: 50}, {Key: 5, Val: 51}}, Scripts: [][]api.Op{get, nil}, Picks: []int{0, 0, 1}}
	text := "start 5 50\nstart 5 51\nthread\nget 1\nthread\npick 0 2\npick 1"
	for in, want := range map[string]play.Game{
		"": {}, "\n": {}, "\n\n\n": {}, " \t\r": {}, "# nothing": {}, "#\n  #x\n\t# thread\n": {}, "\r\n\r\n": {},
		text: whole, text + "\n": whole, text + "\n\n": whole, text + "\n#": whole, text + "\n \r\n": whole, "\n" + text: whole, "#start\n\n" + text: whole,
		strings.ReplaceAll(text, "\n", "\n\n# thread\n \t\r\n"):                                whole,
		strings.ReplaceAll(text, "\n", " \r\n\t"):                                              whole,
		strings.ReplaceAll(text, " ", "\t \r "):                                                whole,
		strings.ReplaceAll(text, "get 1", "get 1\n#get 2\n# pick 0\n") + "\n# start 9 9\n#end": whole,
		"thread":                {Scripts: [][]api.Op{nil}},
		"thread\nthread\nget 1": {Scripts: [][]api.Op{nil, get}},
		"start 1 2":             {Start: []api.Pair{{Key: 1, Val: 2}}},
		"start 9223372036854775807 -9223372036854775808\n": {Start: []api.Pair{{Key: most, Val: least}}},
		"pick -9223372036854775808":                        {Picks: []int{least}},
		"pick 9223372036854775807 2":                       {Picks: []int{most, most}},
		"start 1 2\npick 3":                                {Start: []api.Pair{{Key: 1, Val: 2}}, Picks: []int{3}},
		"pick 3 0":                                         {}, "pick 3 0\npick 4 1\npick 5": {Picks: []int{4, 5}},
		"pick 1\npick 1\npick 1 2": {Picks: []int{1, 1, 1, 1}},
		"pick 7 1000000":           {Picks: slices.Repeat([]int{7}, 1000000)}, "pick 7 999999\npick 8\npick 9 0\npick 9 0": {Picks: append(slices.Repeat([]int{7}, 999999), 8)},
		"thread\npick 0 1000000\npick 1 0": {Scripts: [][]api.Op{nil}, Picks: make([]int, 1000000)},
	} {
		if got, n, e := shell.Parse(in); !sameGame(got, want) || n != 0 || e != api.OK {
			t.Errorf("Parse(%.80q) = %.80v, %d, %d", in, got, n, e)
		}
	}
}

func TestTextsThatAreRefused(t *testing.T) { // P28.2
	for text, line := range map[string]int{
		// words that there aren't, or in a place where they don't belong
		"x": 1, "\n\nx": 3, "#\nx\ny": 2, "Thread": 1, "threads": 1, "thread\nkind 1": 2, "1": 1, "start": 1, "thread #": 1, "thread\nget 1 # one": 2, "start 1 2 #": 1, "pick 0 #": 1, "pick # 0": 1, "\x00": 1, "thread\x00": 1, "thread\v": 1, "\xff": 1,
		// words too many or too few
		"start 1": 1, "start 1 2 3": 1, "thread x": 1, "thread 1": 1, "thread thread": 1, "thread\nget": 2, "thread\nget 1 2": 2, "thread\nput 1": 2, "thread\nput 1 2 3": 2, "thread\nmin 1": 2, "thread\nrange 1": 2, "pick": 1, "pick 1 2 3": 1,
		// in a wrong order
		"get 1": 1, "start 1 2\nget 1": 2, "\nmin\nthread": 2, "thread\nstart 1 2": 2, "thread\nget 1\nstart 1 2": 3, "pick 0\nstart 1 2": 2, "pick 0\nthread": 2, "pick 0\nget 1": 2, "thread\npick 0\nget 1": 3, "thread\npick 0\nthread": 3, "thread\npick 0 0\nthread": 3, "thread\npick 0\nstart 1 1": 3, "pick 0 0\nstart 1 1": 2,
		"start 1 1\nthread\nmin\nthread\nmax\npick 0\n\n# ..\nmin": 9,
		// no numbers
		"start 1 x": 1, "start x 1": 1, "start 01 1": 1, "start 1 -0": 1, "start +1 1": 1, "start 9223372036854775808 1": 1, "start 1 -9223372036854775809": 1, "pick x": 1, "pick -": 1, "pick 00": 1, "pick 9223372036854775808": 1, "pick 1 01": 1, "pick 1 +1": 1, "pick 1 -0": 1, "thread\nget 01": 2, "thread\nget -0": 2, "thread\nget 9223372036854775808": 2,
		// limits of the picks
		"pick 0 1000001": 1, "pick 0 -1": 1, "pick 0 9223372036854775807": 1, "pick 0 -9223372036854775808": 1, "pick 0 9223372036854775808": 1, "pick 0 1000000\npick 1": 2, "pick 0 1000000\npick 1 1": 2, "pick 0 1000000\npick 0 9223372036854775807": 2, "pick 0 500000\npick 1 500001\npick 2": 2, "pick 0 999999\npick 1\npick 2 0\npick 2": 4,
		// the first wrong line counts
		"start 1 1\nstart 2\nx\n": 2, "thread\n\n\nget 1\nget\nget 1 1\n": 5,
	} {
		if g, n, e := shell.Parse(text); !isNoGame(g) || n != line || e != api.ErrText {
			t.Errorf("Parse(%q) = %.80v, %d, %d, want line %d", text, g, n, e, line)
		}
	}
}

func TestPrintAndParseByChance(t *testing.T) { // P28.2
	r := rand.New(rand.NewSource(3))
	for range 3000 {
		g := someGame(r, 6, 6, 100)
		text, e := shell.Print(g)
		if e != api.OK || text != naivePrint(g) {
			t.Fatalf("Print(%v) = %q, %d", g, text, e)
		}
		if got, n, e := shell.Parse(text); !sameGame(got, plainGame(g)) || n != 0 || e != api.OK {
			t.Fatalf("Parse(%q) = %v, %d, %d", text, got, n, e)
		}
	}
}

func TestParseOfSpoiledTexts(t *testing.T) { // P28.2
	r := rand.New(rand.NewSource(4))
	taken := 0
	for range 20000 {
		text := spoiled(r, naivePrint(someGame(r, 3, 3, 20)))
		want, line, e := naiveParse(text)
		if e == api.OK {
			taken++
		}
		if got, n, err := shell.Parse(text); !sameGame(got, want) || n != line || err != e {
			t.Fatalf("Parse(%q) = %.80v, %d, %d, want %.80v, %d, %d", text, got, n, err, want, line, e)
		}
	}
	if taken < 1000 || taken > 19000 {
		t.Errorf("%d texts of 20000 were of the language", taken)
	}
}

// TestParseOfLongTexts: as many lines and pairs as one likes.
func TestParseOfLongTexts(t *testing.T) { // P28.2
	if g, n, e := shell.Parse(strings.Repeat("\n", 300000) + "x"); !isNoGame(g) || n != 300001 || e != api.ErrText {
		t.Errorf("Parse = %v, %d, %d", g, n, e)
	}
	var b strings.Builder
	for i := range 100000 {
		b.WriteString("start " + strconv.Itoa(i) + " 1\n")
	}
	if g, n, e := shell.Parse(b.String() + "thread\n" + strings.Repeat("min\n", 100000)); len(g.Start) != 100000 || len(g.Scripts) != 1 || len(g.Scripts[0]) != 100000 || n != 0 || e != api.OK {
		t.Errorf("Parse: %d pairs, %d threads, %d, %d", len(g.Start), len(g.Scripts), n, e)
	}
}
