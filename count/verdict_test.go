package count

import (
	"math"
	"slices"
	"testing"
)

// A free run's tickets always rise: whether it would be told if they didn't is seen from inside alone.
func TestRoseOfTicketsThatFall(t *testing.T) { // P8.7
	ticket, other := Op{Kind: Ticket}, Op{Kind: Ticket, At: 1}
	for _, c := range []struct {
		scripts [][]Op
		outs    [][]out
		rose    bool
		tickets []int
	}{
		{[][]Op{{ticket, ticket}, {ticket}}, [][]out{{{1, true}, {3, true}}, {{2, true}}}, true, []int{1, 2, 3}},
		{[][]Op{{ticket, ticket}, {ticket}}, [][]out{{{3, true}, {1, true}}, {{2, true}}}, false, []int{1, 2, 3}},
		{[][]Op{{ticket, ticket, ticket}}, [][]out{{{2, true}, {1, true}, {3, true}}}, false, []int{1, 2, 3}},
		{[][]Op{{ticket, ticket}}, [][]out{{{1, true}, {1, true}}}, false, []int{1, 1}},
		{[][]Op{{ticket}, {ticket}}, [][]out{{{2, true}}, {{1, true}}}, true, []int{1, 2}},
		{[][]Op{{ticket, other, ticket}}, [][]out{{{4, true}, {math.MinInt, true}, {5, true}}}, true, []int{4, 5}},
		{[][]Op{{other, other}}, [][]out{{{math.MinInt + 1, true}, {math.MinInt, true}}}, false, nil},
	} {
		tickets, rose := ticketsOf([]int{0, math.MaxInt}, c.scripts, c.outs)
		if rose != c.rose || !slices.Equal(tickets[0], c.tickets) {
			t.Errorf("ticketsOf(.., %v, %v) = %v, %v", c.scripts, c.outs, tickets, rose)
		}
	}
}
