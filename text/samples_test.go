package text_test

import "strings"

// lines makes a text of lines.
func lines(all ...string) string { return strings.Join(all, "\n") + "\n" }

// rich is the text of sample.Rich, written out by hand.
func rich() string {
	return lines(
		"func int bool arrays 2 cells 3",
		"b0:",
		"v2 = const 7",
		"v3 = flag 1",
		"v4 = add v0 v2",
		"v5 = sub v0 v2",
		"v6 = mul v0 v2",
		"v7 = and v0 v2",
		"v8 = or v0 v2",
		"v9 = xor v0 v2",
		"v10 = shl v0 v2",
		"v11 = shr v0 v2",
		"v12 = div v0 v2",
		"v13 = rem v0 v2",
		"v14 = eq v0 v2",
		"v15 = lt v0 v2",
		"v16 = below v0 v2",
		"v17 = not v1",
		"v18 = select v1 v0 v2",
		"v19 = len 1",
		"v20 = load 0 v0",
		"store 1 v0 v2",
		"v21 = fetch 1 v2",
		"put 0 v2 v0",
		"out v20",
		"v22 = get 2",
		"set 2 v2",
		"jump b1",
		"b1:",
		"v23 = phi int b0 v2 b2 v25",
		"v24 = phi bool b0 v3 b2 v14",
		"branch v24 b2 b3",
		"b2:",
		"v25 = add v23 v23",
		"jump b1",
		"b3:",
		"branch v17 b4 b4",
		"b4:",
		"return v24",
		"b5:",
		"trap 3",
		"b6:",
		"return v23",
	)
}

// small is the first lines of the chapter's example.
func small() []string {
	return []string{"func int arrays 0 cells 0", "b0:", "v1 = const 5", "v2 = add v0 v1", "return v2"}
}
