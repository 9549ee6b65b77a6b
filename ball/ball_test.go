package ball_test

import (
	"testing"

	"hornbeam/api"
	"hornbeam/ball"
	"hornbeam/sample"
	"hornbeam/tree"
)

func TestBalls(t *testing.T) {
	for want, got := range map[string]*api.Ball{
		`"instantiation_error"`:                        ball.Instantiation(),
		`"type_error"("evaluable","f"(_3))`:            ball.Type("evaluable", api.Term{Kind: api.Compound, Name: "f", Args: []api.Term{{Kind: api.Var, Var: 3}}}),
		`"domain_error"("order",7)`:                    ball.Domain("order", tree.Int(7)),
		`"existence_error"("stream",_1)`:               ball.Existence("stream", tree.Var(1)),
		`"permission_error"("open","source_sink","a")`: ball.Permission("open", "source_sink", tree.Atom("a")),
		`"representation_error"("character")`:          ball.Representation("character"),
		`"evaluation_error"("zero_divisor")`:           ball.Evaluation("zero_divisor"),
		`"resource_error"("bits")`:                     ball.Resource("bits"),
	} {
		if shown := sample.Show(got.Term); shown != want {
			t.Errorf("%s; want %s", shown, want)
		}
	}
}

// Each ball is a new one, which may be changed.
func TestBallsAreNew(t *testing.T) {
	first := ball.Resource("bits")
	sample.Spoil(first.Term)
	if got := sample.Show(ball.Resource("bits").Term); got != `"resource_error"("bits")` {
		t.Errorf("%s", got)
	}
}
