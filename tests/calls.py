"""Calls of the functions of the modules from evenodds.span on, good ones and ones that raise an error.

Each is a function and what it is passed by place.
"""

from evenodds.bruhat import is_at_most, rearrangement_stretch, rearrangements, swaps
from evenodds.cdread import cd_sum
from evenodds.crossing import border, closure_below, crossing, crossing_ends, is_closed
from evenodds.faces import corners_of, cross, cube, faces_of, polygon, simplex
from evenodds.labels import (
    corner_labels,
    fall_counts,
    falling_chains,
    falls,
    find_labels,
    full_chains,
    is_single,
    is_unsingle_paper,
    label_row,
    product_labels,
    rising_chains,
    risen_chain,
    turned_labels,
    unsingle_stretch,
)
from evenodds.papers import full_paper, is_full_paper, is_verdict, verdict
from evenodds.script import run
from evenodds.signrows import (
    differing,
    face_order,
    is_arrangement,
    is_lot_matching,
    joined_rows,
    line_rows,
    lot_sum,
    put_on,
    row_count,
    row_counts,
    turned_row,
    unclosed,
    undoubled_term,
    zero_lot,
    zero_lots,
    zero_order,
)
from evenodds.span import (
    alpha_of_cd,
    basis_order,
    basis_sum,
    combination,
    heap_alpha,
    heaps,
    hidden_sum,
    is_hidden,
    line_order,
    pair_order,
    rebuilt,
    triangle_order,
)
from evenodds.toric import (
    cut_row,
    long_of_sum,
    long_parts,
    long_row,
    minus_row,
    short_of_sum,
    short_row,
    short_turn,
    times_rows,
    unmirrored_item,
)
from evenodds.words import WordSum
from samples import crooked, diamond, full, one, two, wide

CD_SUM = WordSum("cd", 3, [("dc", 2), ("ccc", 1), ("cd", -1)])
AB_SUM = WordSum("ab", 2, [("ba", 3), ("ab", -1)])


def labels(order):
    return {pair: at % 3 for at, pair in enumerate(order.covers)}


def found_labels(order, most):
    return find_labels(order, most=most)


def started(text, start):
    return run(text, start=start)


CALLS = (
    (pair_order,),
    (line_order,),
    (triangle_order,),
    (basis_order, "cdc"),
    (basis_order, "ccccccccc"),
    (basis_sum, "cdc"),
    (combination, CD_SUM),
    (combination, AB_SUM),
    (rebuilt, 3, [["dc", 2], ["ccc", 1], ["dc", -1]]),
    (rebuilt, 3, [["dc", 2], ["d", 1]]),
    (alpha_of_cd, CD_SUM, [1, 3]),
    (alpha_of_cd, CD_SUM, [3, 1]),
    (hidden_sum, 3, [[1], [2], [1]]),
    (hidden_sum, 3, [[1], [2], [3]]),
    (hidden_sum, 3, [[1], [2, 1]]),
    (is_hidden, CD_SUM, [[1], [2], [1]]),
    (is_hidden, CD_SUM, [[1], [2, 1]]),
    (heaps, CD_SUM),
    (heap_alpha, [["dc", 2], ["ccc", -1]], [1, 3]),
    (heap_alpha, [["dc", 2], ["ccc", -1]], [4]),
    (faces_of, 4, [[0, 1], [1, 2], [2, 3], [0, 3]]),
    (faces_of, 4, [[0, 1], [2, 1]]),
    (corners_of, "f0-2-5"),
    (polygon, 4),
    (simplex, 3),
    (cube, 2),
    (cross, 2),
    (swaps, "3142"),
    (is_at_most, "2143", "3412"),
    (rearrangement_stretch, "132", "321"),
    (rearrangement_stretch, "321", "132"),
    (rearrangements, 3),
    (is_closed, crooked(), ["bot", "b", "bot"]),
    (closure_below, crooked(), ["k", "b"]),
    (crossing, crooked(), ["bot", "b", "bot"]),
    (crossing, crooked(), ["b", "bot", "k"]),
    (crossing_ends, crooked(), ["bot", "b"]),
    (border, crooked(), ["bot", "b"]),
    (border, crooked(), []),
    (times_rows, [1, 2], [3, 4, 5]),
    (times_rows, [1, 2], []),
    (minus_row, 4),
    (cut_row, [1, 5, 5, 1]),
    (unmirrored_item, [1, 5, 6, 1]),
    (long_row, crooked()),
    (short_row, crooked()),
    (long_parts, crooked()),
    (short_turn, crooked()),
    (long_of_sum, AB_SUM),
    (short_of_sum, CD_SUM),
    (full_chains, crooked(), "bot", "top"),
    (label_row, diamond(), labels(diamond()), ["w", "y", "z"]),
    (label_row, diamond(), labels(diamond()), ["w", "z"]),
    (falls, [2, 1, 3, 3, 1]),
    (rising_chains, crooked(), labels(crooked()), "bot", "top"),
    (falling_chains, crooked(), labels(crooked()), "bot", "top"),
    (rising_chains, crooked(), {}, "bot", "top"),
    (unsingle_stretch, crooked(), labels(crooked())),
    (unsingle_stretch, crooked(), {**labels(crooked()), ("q", "r"): 1}),
    (is_single, crooked(), labels(crooked())),
    (is_unsingle_paper, crooked(), labels(crooked()), ("bot", "k", ((0, 0), (1, 2)))),
    (is_unsingle_paper, crooked(), labels(crooked()), ["bot", "k", [[0, 0], [1, 2]]]),
    (fall_counts, crooked(), labels(crooked())),
    (risen_chain, crooked(), labels(crooked()), ["b", "k"]),
    (risen_chain, crooked(), labels(crooked()), ["k", "b"]),
    (found_labels, diamond(), 2),
    (found_labels, diamond(), 5),
    (product_labels, diamond(), labels(diamond()), two(), labels(two())),
    (product_labels, diamond(), labels(diamond()), two(), {}),
    (turned_labels, crooked(), labels(crooked())),
    (corner_labels, 3),
    (zero_lot, "-0+0"),
    (differing, "-0+", "+0+"),
    (turned_row, "-0+"),
    (put_on, "-0+", "+-0"),
    (unclosed, ["00", "+-", "-+", "++", "--"]),
    (unclosed, ["00", "0"]),
    (is_arrangement, ["0", "+", "-"]),
    (face_order, ["00", "0+", "0-", "-0", "+0"]),
    (face_order, ["-", "+"]),
    (zero_order, ["00", "0+", "0-", "-0", "+0", "++"]),
    (zero_lots, ["00", "0+", "0-", "-0", "+0"]),
    (row_count, crooked(), "bot", "top"),
    (row_counts, crooked()),
    (row_counts, one()),
    (lot_sum, crooked()),
    (undoubled_term, CD_SUM),
    (is_lot_matching, ["0-", "00"], ["-0", "00"], [[0, 1], [1, 0]]),
    (is_lot_matching, ["0-", "00"], ["-0", "0"], [[0, 1], [1, 0]]),
    (line_rows, 3),
    (joined_rows, ["0", "+"], ["-", "0"]),
    (joined_rows, ["0000"], ["000"]),
    (verdict, crooked()),
    (verdict, full(2, 2)),
    (is_verdict, crooked(), ("uneven", "bot", "j", 2, 1)),
    (is_verdict, crooked(), ["uneven", "bot", ["j"], 2, 1]),
    (full_paper, full(2, 2)),
    (full_paper, crooked()),
    (is_full_paper, diamond(), [["w", "y", [["", 1]]]]),
    (is_full_paper, wide(17), []),
    (run, "body polygon 4\nask verdict\nundo\nundo\nask size"),
    (started, "cross w\nask order\nask few\nx\nask sum", diamond()),
    (cd_sum, crossing(full(2, 2), ["n", "m1-0"])),
)
