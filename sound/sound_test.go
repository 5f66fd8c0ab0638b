package sound_test

import (
	"strings"
	"testing"

	"voyage/api"
	"voyage/sound"
)

// R6: at each bound, and at one more.
func TestIs(t *testing.T) {
	text := func(n int) api.Value { return api.Value{Kind: api.Text, Text: strings.Repeat("x", n)} }
	nest := func(v api.Value, times int) api.Value {
		for i := range times {
			if i%2 == 0 {
				v = api.Value{Kind: api.List, List: []api.Value{v}}
			} else {
				v = api.Value{Kind: api.Object, Fields: []api.Field{{Name: "n", Value: v}}}
			}
		}
		return v
	}
	rest := api.MaxText - len(`""`)
	for i, x := range []struct {
		v    api.Value
		want bool
	}{
		{api.Value{}, true}, {text(0), true}, {text(rest), true}, {text(rest + 1), false}, {api.Value{Kind: 9, Text: text(rest + 1).Text, List: []api.Value{nest(api.Value{}, 65)}}, true},
		{api.Value{Kind: api.Text, Text: strings.Repeat("\n", rest/2)}, true}, {api.Value{Kind: api.Text, Text: strings.Repeat("\n", rest/2+1)}, false}, {api.Value{Kind: api.Text, Text: strings.Repeat("\xff", rest/3+1)}, false},
		{nest(text(rest-len(`[]`)), 1), true}, {nest(text(rest-len(`[]`)+1), 1), false}, {nest(text(rest-len(`{"n":[]}`)), 2), true}, {nest(text(rest-len(`{"n":[]}`)+1), 2), false},
		{nest(api.Value{}, 64), true}, {nest(api.Value{}, 65), false}, {nest(api.Value{Kind: api.List}, 63), true}, {nest(api.Value{Kind: api.Object}, 64), false}, {nest(api.Value{}, 1<<16-1), false}, {nest(text(rest), 65), false},
	} {
		if got := sound.Is(x.v); got != x.want {
			t.Errorf("%d: %v", i, got)
		}
	}
}
