package help

import (
	"slices"

	"larch/api"
	"larch/baton"
	"larch/cell"
	"larch/record"
)

// Plan is an SCX-record as plain data.
type Plan struct {
	V     []int  // records
	Infos []int  // SCX-records; -1: the record's own first one
	Fin   []bool // which of V it finalizes
	At    int    // V[At] has the field that it changes
	Field int
	Old   int // a record, or -1: nil
	New   int
}

// Played is what a run of helpers did.
type Played struct {
	Steps   []api.Step
	Ended   []bool
	Answers [][]int // by worker, of the helps that returned: 1 or 0
	World   record.World
}

// Play: a worker for each list of SCX-records, which it helps one behind the other.
func Play(w record.World, plans []Plan, scripts [][]int, picks []int) (Played, api.Errno) {
	if e := playError(w, plans, scripts, picks); e != api.OK {
		return Played{}, e
	}
	t := thingsOf(w, plans)
	answers := make([][]int, len(scripts))
	told, _ := baton.Run(len(scripts), picks, func(worker int, g cell.Gate) {
		for _, n := range scripts[worker] {
			g.Pass(api.Start)
			did := Help(g, t.Scxs[n])
			answers[worker] = append(answers[worker], oneIf(did))
		}
	})
	return Played{Steps: told.Steps, Ended: told.Ended, Answers: answers, World: t.World()}, api.OK
}

// Kinds: the kinds of the accesses of one thread that helps one of them, alone.
func Kinds(w record.World, plans []Plan, scx int) ([]int, api.Errno) {
	if e := Check(w, plans); e != api.OK {
		return nil, e
	}
	if !isNumber(scx, len(plans)) {
		return nil, api.ErrArg
	}
	tape := cell.NewTape()
	Help(tape, thingsOf(w, plans).Scxs[scx])
	return tape.Kinds(), api.OK
}

// thingsOf: those of a world and plans that Check doesn't refuse.
func thingsOf(w record.World, plans []Plan) record.Things {
	t, _ := record.Make(w)
	for k, p := range plans {
		plan(t, t.Scxs[k], p)
	}
	return t
}

// plan says what the SCX-record wants. The plans may name one another: so all are made ahead of that; nobody has seen them yet.
func plan(t record.Things, s *record.Scx[int], p Plan) {
	for i, n := range p.V {
		s.V = append(s.V, t.Records[n])
		s.Infos = append(s.Infos, t.Info(n, p.Infos[i]))
	}
	s.Fin = slices.Clone(p.Fin)
	s.At, s.Field = p.At, p.Field
	s.Old, s.New = t.Record(p.Old), t.Record(p.New)
}

func oneIf(b bool) int {
	if b {
		return 1
	}
	return 0
}
