package shell_test

import (
	"fmt"
	"math"
	"math/big"
	"math/rand"
	"regexp"
	"slices"
	"strings"

	"larch/api"
	"larch/model"
	"larch/play"
)

const least, most = math.MinInt, math.MaxInt

// kinds: the chapter's table.
var kinds = []struct {
	kind    int
	word    string
	numbers string // K, V, H: Key, Val, Hi
}{
	{api.Get, "get", "K"}, {api.Put, "put", "KV"}, {api.PutIfAbsent, "ifabsent", "KV"}, {api.Delete, "delete", "K"}, {api.Successor, "after", "K"},
	{api.Predecessor, "before", "K"}, {api.Min, "min", ""}, {api.Max, "max", ""}, {api.Range, "range", "KH"},
}

// lines: each with a line end.
func lines(list ...string) string {
	if len(list) == 0 {
		return ""
	}
	return strings.Join(list, "\n") + "\n"
}

// plainGame: with each operation plain.
func plainGame(g play.Game) play.Game {
	scripts := make([][]api.Op, len(g.Scripts))
	for thread, script := range g.Scripts {
		for _, o := range script {
			scripts[thread] = append(scripts[thread], model.Plain(o))
		}
	}
	return play.Game{Start: g.Start, Scripts: scripts, Picks: g.Picks}
}

func sameGame(a, b play.Game) bool {
	sameOps := func(x, y []api.Op) bool { return slices.Equal(x, y) }
	return slices.Equal(a.Start, b.Start) && slices.EqualFunc(a.Scripts, b.Scripts, sameOps) && slices.Equal(a.Picks, b.Picks)
}

func isNoGame(g play.Game) bool { return g.Start == nil && g.Scripts == nil && g.Picks == nil }

// What follows reads and tells the language in another way than the package does.

var (
	word     = regexp.MustCompile(`[^ \t\r]+`)
	isNumber = regexp.MustCompile(`^(0|-?[1-9][0-9]*)$`)
)

// naiveNumber: a word as a number.
func naiveNumber(w string) (int, bool) {
	n, ok := new(big.Int).SetString(w, 10)
	if !ok || !isNumber.MatchString(w) || !n.IsInt64() {
		return 0, false
	}
	return int(n.Int64()), true
}

// naiveNumbers: of all words.
func naiveNumbers(words []string) ([]int, bool) {
	var numbers []int
	for _, w := range words {
		n, ok := naiveNumber(w)
		if !ok {
			return nil, false
		}
		numbers = append(numbers, n)
	}
	return numbers, true
}

// naiveOp: the operation of a line's words.
func naiveOp(words []string) (api.Op, bool) {
	for _, k := range kinds {
		if len(words) == 0 || words[0] != k.word {
			continue
		}
		numbers, ok := naiveNumbers(words[1:])
		if !ok || len(numbers) != len(k.numbers) {
			return api.Op{}, false
		}
		o := api.Op{Kind: k.kind}
		for i, field := range k.numbers {
			switch field {
			case 'K':
				o.Key = numbers[i]
			case 'V':
				o.Val = numbers[i]
			case 'H':
				o.Hi = numbers[i]
			}
		}
		return o, true
	}
	return api.Op{}, false
}

// naiveParse: by the shape of what has been said so far: s, t and p for the lines of the three parts.
func naiveParse(text string) (play.Game, int, api.Errno) {
	all := strings.Split(text, "\n")
	if all[len(all)-1] == "" {
		all = all[:len(all)-1]
	}
	var g play.Game
	said := ""
	for i, line := range all {
		words := word.FindAllString(line, -1)
		if len(words) == 0 || words[0][0] == '#' {
			continue
		}
		wrong := func() (play.Game, int, api.Errno) { return play.Game{}, i + 1, api.ErrText }
		numbers, ok := naiveNumbers(words[1:])
		o, isOp := naiveOp(words)
		switch {
		case words[0] == "start" && ok && len(numbers) == 2 && !strings.ContainsAny(said, "tp"):
			g.Start = append(g.Start, api.Pair{Key: numbers[0], Val: numbers[1]})
			said += "s"
		case words[0] == "thread" && ok && len(numbers) == 0 && !strings.Contains(said, "p"):
			g.Scripts = append(g.Scripts, nil)
			said += "t"
		case isOp && strings.Contains(said, "t") && !strings.Contains(said, "p"):
			g.Scripts[len(g.Scripts)-1] = append(g.Scripts[len(g.Scripts)-1], o)
		case words[0] == "pick" && ok && (len(numbers) == 1 || len(numbers) == 2):
			many := append(numbers, 1)[1]
			if many < 0 || many > 1000000 || len(g.Picks)+many > 1000000 {
				return wrong()
			}
			for range many {
				g.Picks = append(g.Picks, numbers[0])
			}
			said += "p"
		default:
			return wrong()
		}
	}
	return g, 0, api.OK
}

// naiveOpLine: an operation of a kind, as a line.
func naiveOpLine(o api.Op) string {
	for _, k := range kinds {
		if k.kind != o.Kind {
			continue
		}
		line := k.word
		for _, field := range k.numbers {
			line += fmt.Sprintf(" %d", map[rune]int{'K': o.Key, 'V': o.Val, 'H': o.Hi}[field])
		}
		return line
	}
	return fmt.Sprintf("kind %d", o.Kind)
}

// naivePrint: of a game whose operations have kinds.
func naivePrint(g play.Game) string {
	var all []string
	for _, p := range g.Start {
		all = append(all, fmt.Sprintf("start %d %d", p.Key, p.Val))
	}
	for _, script := range g.Scripts {
		all = append(all, "thread")
		for _, o := range script {
			all = append(all, naiveOpLine(o))
		}
	}
	many := 0
	for i, pick := range g.Picks {
		many++
		if i+1 < len(g.Picks) && g.Picks[i+1] == pick {
			continue
		}
		if many == 1 {
			all = append(all, fmt.Sprintf("pick %d", pick))
		} else {
			all = append(all, fmt.Sprintf("pick %d %d", pick, many))
		}
		many = 0
	}
	return lines(all...)
}

func naiveTell(e api.Event) string {
	line := fmt.Sprintf("t%d %s", e.Thread, naiveOpLine(e.Op))
	if !e.Return {
		return line
	}
	line += map[bool]string{true: " -> yes", false: " -> no"}[e.Ret.Ok]
	switch {
	case e.Op.Kind >= api.Get && e.Op.Kind <= api.Delete:
		return fmt.Sprintf("%s %d", line, e.Ret.Val)
	case e.Op.Kind >= api.Successor && e.Op.Kind <= api.Max:
		return fmt.Sprintf("%s %d:%d", line, e.Ret.Key, e.Ret.Val)
	}
	for _, p := range e.Ret.Pairs {
		line += fmt.Sprintf(" %d:%d", p.Key, p.Val)
	}
	return line
}

// someNumber: a small one, or one at an end.
func someNumber(r *rand.Rand) int {
	edges := []int{least, least + 1, -1, 0, 1, 7, most - 1, most}
	if r.Intn(4) == 0 {
		return edges[r.Intn(len(edges))]
	}
	return r.Intn(12) - 3
}

func someOp(r *rand.Rand) api.Op {
	return api.Op{Kind: 1 + r.Intn(9), Key: someNumber(r), Val: someNumber(r), Hi: someNumber(r)}
}

// someGame: of up to so many threads; the picks are of them, and now and then of nobody.
func someGame(r *rand.Rand, threads, ops, picks int) play.Game {
	var g play.Game
	for range r.Intn(6) {
		g.Start = append(g.Start, api.Pair{Key: someNumber(r), Val: someNumber(r)})
	}
	for range r.Intn(threads + 1) {
		var script []api.Op
		for range r.Intn(ops + 1) {
			script = append(script, someOp(r))
		}
		g.Scripts = append(g.Scripts, script)
	}
	for len(g.Picks) < picks && r.Intn(30) > 0 {
		g.Picks = append(g.Picks, slices.Repeat([]int{r.Intn(threads+2) - 1}, r.Intn(9))...)
	}
	return g
}
