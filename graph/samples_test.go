package graph_test

import (
	"testing"

	"strake/api"
	"strake/sample"
)

// cross has forks, joins, a branch to one block twice, a loop, and blocks that can't be come to, which go to others.
func cross(t *testing.T) api.Func {
	t.Helper()
	return sample.Flagged(t,
		"b0:", "v1 = const 1", "branch v0 b5 b2",
		"b1:", "v2 = const 2", "jump b3",
		"b2:", "v3 = const 3", "branch v0 b3 b3",
		"b3:", "v4 = phi int b1 v2 b2 v3 b5 v1 b6 v8", "branch v0 b6 b8",
		"b4:", "v5 = phi int b7 v7", "branch v0 b7 b8",
		"b5:", "v6 = const 6", "jump b3",
		"b6:", "v8 = add v4 v4", "branch v0 b3 b6",
		"b7:", "v7 = phi int b4 v5", "jump b4",
		"b8:", "v9 = phi int b4 v5 b3 v4", "return v9",
	)
}
