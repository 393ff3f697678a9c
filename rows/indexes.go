package rows

import "vellum/api"

// Rise says whether rows rise, none of them empty, with a hole between each two.
func Rise(runs []api.Run) bool {
	above := -1
	for _, run := range runs {
		if run.From <= above || run.To <= run.From {
			return false
		}
		above = run.To
	}
	return true
}

// Count is how many indexes lie in rows.
func Count(runs []api.Run) int {
	count := 0
	for _, run := range runs {
		count += run.To - run.From
	}
	return count
}

// Join is rows of indexes and one index more behind them, in as few rows as can be.
func Join(runs []api.Run, index int) []api.Run {
	if last := len(runs) - 1; last >= 0 && runs[last].To == index {
		runs[last].To++
		return runs
	}
	return append(runs, api.Run{From: index, To: index + 1})
}
