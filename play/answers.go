package play

import (
	"larch/api"
	"larch/event"
)

// Answers: by thread the answers that were returned.
func Answers(h []api.Event, threads int) ([][]api.Ret, api.Errno) {
	if threads < 0 || threads > api.MaxThreads {
		return nil, api.ErrArg
	}
	calls, e := event.Calls(h)
	if e != api.OK {
		return nil, api.ErrForm
	}
	answers := make([][]api.Ret, threads)
	for _, c := range calls { // of one thread they return in the order of their invocations
		if c.Thread >= threads {
			return nil, api.ErrForm
		}
		if c.To >= 0 {
			answers[c.Thread] = append(answers[c.Thread], c.Ret)
		}
	}
	return answers, api.OK
}
