package shell

import (
	"slices"
	"strconv"
	"strings"

	"larch/api"
	"larch/model"
	"larch/play"
)

// The words of the lines that are no operations.
const (
	startWord  = "start"
	threadWord = "thread"
	pickWord   = "pick"
)

// page is a text that is made line by line.
type page struct {
	strings.Builder
}

// add: one line more.
func (p *page) add(line string) {
	p.WriteString(line)
	p.WriteString(lineEnd)
}

// Print: the game as a text.
func Print(g play.Game) (string, api.Errno) {
	if slices.ContainsFunc(g.Scripts, hasNoKind) {
		return "", api.ErrKind
	}
	if len(g.Picks) > api.MaxPicks {
		return "", api.ErrBig
	}
	var p page
	for _, pair := range g.Start {
		p.add(startWord + " " + strconv.Itoa(pair.Key) + " " + strconv.Itoa(pair.Val))
	}
	for _, script := range g.Scripts {
		p.add(threadWord)
		for _, o := range script {
			line, _ := PrintOp(o)
			p.add(line)
		}
	}
	p.addPicks(g.Picks)
	return p.String(), api.OK
}

func hasNoKind(script []api.Op) bool {
	return slices.ContainsFunc(script, func(o api.Op) bool { return model.Kind(o.Kind) != api.OK })
}

// addPicks: equal neighbours are told by one line.
func (p *page) addPicks(picks []int) {
	for from, to := 0, 0; from < len(picks); from = to {
		for to < len(picks) && picks[to] == picks[from] {
			to++
		}
		line := pickWord + " " + strconv.Itoa(picks[from])
		if many := to - from; many > 1 {
			line += " " + strconv.Itoa(many)
		}
		p.add(line)
	}
}

// Parse: the game of a text; else the number of the line, and the error.
func Parse(text string) (play.Game, int, api.Errno) {
	var r reader
	line, number := "", 0
	for rest := text; rest != ""; {
		line, rest, _ = strings.Cut(rest, lineEnd)
		number++
		if words := wordsOf(line); !saysNothing(words) && !r.read(words) {
			return play.Game{}, number, api.ErrText
		}
	}
	return r.game, 0, api.OK
}

// The parts of a text, in their order.
const (
	startPart  = 0
	threadPart = 1
	pickPart   = 2
)

// reader has a game as far as its text has been read.
type reader struct {
	game play.Game
	part int // the one that the last line belongs to
}

// read: the line comes to the game; false: it is wrong.
func (r *reader) read(words []string) bool {
	switch words[0] {
	case startWord:
		return r.goTo(startPart) && r.readStart(words[1:])
	case threadWord:
		return r.goTo(threadPart) && r.readThread(words[1:])
	case pickWord:
		return r.goTo(pickPart) && r.readPick(words[1:])
	}
	return r.part == threadPart && r.readOp(words)
}

// goTo: the line belongs to that part; false: a later one has begun.
func (r *reader) goTo(part int) bool {
	if part < r.part {
		return false
	}
	r.part = part
	return true
}

func (r *reader) readStart(numbers []string) bool {
	var p api.Pair
	if !readNumbers(numbers, &p.Key, &p.Val) {
		return false
	}
	r.game.Start = append(r.game.Start, p)
	return true
}

func (r *reader) readThread(more []string) bool {
	if len(more) > 0 {
		return false
	}
	r.game.Scripts = append(r.game.Scripts, nil)
	return true
}

// readOp: an operation of the last thread that was begun.
func (r *reader) readOp(words []string) bool {
	o, ok := opOf(words)
	if !ok {
		return false
	}
	last := len(r.game.Scripts) - 1
	r.game.Scripts[last] = append(r.game.Scripts[last], o)
	return true
}

func (r *reader) readPick(numbers []string) bool {
	pick, many := 0, 1
	wanted := []*int{&pick}
	if len(numbers) > 1 {
		wanted = append(wanted, &many)
	}
	if !readNumbers(numbers, wanted...) || many < 0 || many > api.MaxPicks-len(r.game.Picks) {
		return false
	}
	r.game.Picks = append(r.game.Picks, slices.Repeat([]int{pick}, many)...)
	return true
}
