"""The examples of points 54 to 120, just as they stand in DOC.md, but for one line of point 95."""

import doctest
import os
import unittest

DOCUMENT = os.path.join(os.path.dirname(os.path.abspath(__file__)), "..", "..", "shared", "DOC.md")

# For the integral of x, the example of point 95 has the rational part alone. Points 30 and 95 tell a pair with the
# sums, as the integrals beside it are, and the judge takes nothing else: so here the pair stands.
OTHER_THAN_TOLD = (
    "[(((), ((1, 1),)), ()), ((((0, 1), (0, 1), (1, 2)), ((1, 1),)), ()),"
    " ((((-1, 1), (1, 1)), ((((0, 1), (1, 1)), ((1, 1),)),)),), True]",
)

# Each point with its module; the names of a point stand for the points behind it, too.
EXAMPLES = [
    (54, "fieldways", r"""
>>> Q, X = 0, ("quot", 0)
>>> R = ("root", 0, ((1, 1), (0, 1), (1, 1)))
>>> [is_field(X), is_field(R), is_field(4), is_number(0, (2, 4)), is_line(5, (3, 0)), number_of(0, 6, -4), number_of(7, 1, 3)]
[True, True, False, False, False, (-3, 2), 5]
>>> quotient_of(0, ((-1, 1), (0, 1), (1, 1)), ((2, 1), (2, 1)))
(((-1, 2), (1, 2)), ((1, 1),))
"""),
    (55, "fieldways", r"""
>>> I = ((0, 1), (1, 1))
>>> [number_plus(0, (1, 2), (1, 3)), number_minus(7, 2, 5), number_times(R, I, I), inverse_of(R, I), number_power(5, 2, 3), negative_of(0, (1, 2))]
[(5, 6), 4, ((-1, 1),), ((0, 1), (-1, 1)), 3, (-1, 2)]
>>> number_plus(X, (((1, 1),), ((0, 1), (1, 1))), (((1, 1),), ((1, 1), (1, 1))))
(((1, 1), (2, 1)), ((0, 1), (1, 1), (1, 1)))
"""),
    (56, "lineways", r"""
>>> [line_plus(5, (1, 2), (4, 3)), line_times(5, (1, 1), (4, 1)), line_at(7, (1, 2, 3), 2), slope_of(3, (1, 1, 1, 1)), powered_line(2, (1, 1), 2)]
[(), (4, 0, 1), 3, (1, 2), (1, 0, 1)]
>>> [divided_lines(5, (4, 0, 1), (2, 1)), does_divide(5, (1, 1), (4, 0, 1)), rest_of_power(3, (0, 1), 9, (1, 0, 1)), monic_line(7, (1, 3)), common_line(5, (4, 0, 1), (1, 2, 1))]
[((3, 1), (3,)), True, (0, 1), (5, 1), (1, 1)]
"""),
    (57, "towers", r"""
>>> E, L = (("exp", (((0, 1), (1, 1)), ((1, 1),))),), (("log", (((0, 1), (1, 1)), ((1, 1),))),)
>>> [is_tower(E), is_tower((("log", (((2, 1),), ((1, 1),))),)), field_of(E) == ("quot", X), derivative_of((), last_unknown(())), derivative_of(E, last_unknown(E)) == last_unknown(E)]
[True, False, True, (((1, 1),), ((1, 1),)), True]
>>> derivative_of(L, last_unknown(L)) == lifted_thing(L, (((1, 1),), ((0, 1), (1, 1))))
True
"""),
    (58, "wholes", r"""
>>> [gcd_paper(0, 0), gcd_paper(12, -18)[0], lcm_paper(4, -6)[0], takes_gcd(12, 18, (6, -1, 1, 2, 3)), takes_lcm(4, 6, (24, 6, 4, 1, -1))]
[(0, 0, 0, 0, 0), 6, 12, True, False]
"""),
    (59, "primes", r"""
>>> [number_paper(2), number_paper(5), number_paper(9), takes_number(12, ("split", 3, 4)), takes_number(7, ("prime", (4,)))]
[('prime', ()), ('prime', (3,)), ('split', 3, 3), True, True]
>>> [factors_paper(12), divisors_of(12)]
[((2, 2, ()), (3, 1, ())), (1, 2, 3, 4, 6, 12)]
"""),
    (60, "modways", r"""
>>> [inverse_paper(3, 7), inverse_paper(0, 5), order_paper(2, 7), roots_of(1, 2, 8)]
[('inverse', 5), ('none', 5, 0, 1), ('order', 3, ((3, 1, ()),)), (1, 3, 5, 7)]
"""),
    (61, "remainders", r"""
>>> [takes_joined(1, 4, 2, 6, ("none", 2, 2, 3)), joined_row_paper(((1, 2), (2, 3), (0, 5)))[:4]]
[True, ('joined', 5, 30, (15, 10, 6))]
"""),
    (62, "backfractions", r"""
>>> [takes_back(7, 5, 1, 3, ("back", 1, 3, 2)), takes_back(7, 5, 1, 2, ("none", (2, -1, 1), (1, 3, -2))), back_paper(5, 0, 0, 1)]
[True, True, ('back', 0, 1, 0)]
"""),
    (63, "tables", r"""
>>> [row_by_table(5, ((1, 2), (3, 4)), (1, 1)), table_by_row(5, ((1, 2), (3, 4)), (1, 1)), inverse_table(7, ((2, 1), (1, 1)))]
[(4, 1), (3, 2), ((1, 6), (6, 2))]
>>> [reduced_paper(5, ((2, 4, 1), (1, 2, 0)))[0], reduced_paper(3, ((0, 0), (0, 0)))]
[((1, 2, 0), (0, 0, 1)), ((), (), ((), ()))]
"""),
    (64, "determinants", r"""
>>> [whole_determinant(((2, 0, 1), (1, 3, 2), (0, 1, 1))), takes_determinant(5, ((1, 2), (2, 4)), ("nought", (3, 1)))]
[3, True]
>>> [takes_determinant(5, ((0, 1), (1, 0)), ("value", d, (1, 0), ((1, 0), (0, 1)), ((1, 0), (0, 1)))) for d in (1, 4)]
[False, True]
"""),
    (65, "systems", r"""
>>> solved_paper(5, ((1, 2), (2, 4)), (3, 1))
('solution', (3, 0), ((3, 1),), (((1, 2),), ((1, 0),), ((1,), (2,))))
>>> [solved_paper(3, ((),), (2,)), takes_solved(5, ((1, 2), (2, 4)), (3, 2), ("none", (3, 1)))]
[('none', (2,)), True]
"""),
    (66, "linegcd", r"""
>>> [common_paper(5, (4, 0, 1), (1, 2, 1)), euclid_rows(7, (), (3,))]
[((1, 1), (2,), (3,), (4, 1), (1, 1)), [((), (1,), ()), ((1,), (), (5,)), ((), (1,), ())]]
"""),
    (67, "linegcd", r"""
>>> [solved_pair(5, (4, 0, 1), (1, 2, 1), (2, 2)), inverse_line(5, (0, 1), (1, 0, 1)), least_multiple(5, (4, 0, 1), (1, 2, 1))]
[((4,), (1,)), (0, 4), ((4, 4, 1, 1), (1, 1), (4, 1))]
"""),
    (68, "resultants", r"""
>>> [sylvester(7, (2, 3, 1), (4, 1)), is_resultant_paper(7, (2, 3, 1), (4, 1), (6, ((6, 1),), (1,), (1, 6)))]
[((1, 3, 2), (1, 4, 0), (0, 1, 4)), True]
"""),
    (69, "subresultants", r"""
>>> [subresultant(7, (2, 3, 1), (3, 4, 1), 1), subresultants_of(7, (1, 0, 0, 1), (2, 3))]
[(1, 1), ((0, (2,)), (1, (6, 2)))]
"""),
    (70, "squarefree", r"""
>>> [squarefree_parts(2, (1, 0, 1)), is_squarefree_paper(5, (4, 0, 1), (1, (((4, 0, 1), 1),), (4,), (0, 3)))]
[(1, (((1, 1), 2),)), True]
"""),
    (71, "partials", r"""
>>> [digits_of(5, (1, 2, 3), (1, 1)), split_two(5, (0, 0, 0, 1), (0, 1), (1, 1))]
[((2,), (1,), (3,)), ((4, 1), (), (1,))]
"""),
    (72, "partials", r"""
>>> [partials(5, (1,), (((0, 1), 1), ((1, 1), 1))), partials(5, (1, 2), (((1, 1), 2),))]
[((), (((1,),), ((4,),))), ((), (((2,), (4,)),))]
"""),
    (74, "lineroots", r"""
>>> C = ((-2, 1), (0, 1), (1, 1))
>>> [roots_of(5, (4, 0, 1)), roots_of(0, ((-1, 1), (2, 1))), roots_paper(0, C)[1:], roots_paper(0, ((-1, 1), (2, 1)))[1:]]
[((1, 1), (4, 1)), (((1, 2), 1),), (3, 2, ()), (2, 3, (1,))]
"""),
    (75, "turns", r"""
>>> [prime_power(3, (1, 0, 1), (1, 1)), turns_of(3, (1, 0, 1), 2), turns_of(5, (3, 1), 1)]
[(1, 2), [(0, 1), (0, 2), (0, 1)], [(2,), (2,)]]
"""),
    (76, "keptlines", r"""
>>> [kept_lines(5, (1, 0, 1)), kept_lines(3, (1, 0, 1)), is_kept(5, (1, 0, 1), (2, 3)), is_kept(3, (1, 0, 1), (0, 1))]
[((1,), (0, 1)), ((1,),), True, False]
>>> told_apart(5, (1, 0, 1), (0, 1))
[(2, (3, 1)), (3, (2, 1))]
"""),
    (77, "degreeparts", r"""
>>> [degree_parts(2, (1, 0, 0, 1)), degree_paper(2, (1, 0, 0, 1), 1), degree_paper(7, (6, 0, 1), 1)]
[((1, (1, 1)), (2, (1, 1, 1))), None, ()]
"""),
    (78, "modfactors", r"""
>>> [parts_of(5, (1, 0, 1)), is_unsplit(3, (1, 0, 1)), split_paper(3, (1, 0, 1)), unsplit_paper(5, (1, 0, 1)), unsplit_paper(7, (3, 1))]
[((2, 1), (3, 1)), True, None, None, ()]
>>> [factors_mod(2, (0, 0, 1, 0, 1)), factors_mod(7, (3,)), factors_mod(5, (2, 2))]
[(1, (((0, 1), 2), ((1, 1), 2))), (3, ()), (2, (((1, 1), 1),))]
"""),
    (79, "unsplitlines", r"""
>>> [first_unsplit(2, 4), next_unsplit(2, (1, 1, 0, 0, 1)), next_unsplit(2, (1, 1, 1)), count_unsplit(2, 4), count_unsplit(97, 2)]
[(1, 1, 0, 0, 1), (1, 0, 0, 1, 1), None, 3, 4656]
"""),
    (80, "modpapers", r"""
>>> [shows_degree(7, (6, 0, 1), 1, ()), shows_unsplit(2, (1, 1, 1), ((2, (), (1,)),)), shows_unsplit(2, (1, 0, 1), ()), shows_split(5, (1, 0, 1), ((2, 1), (3, 1)))]
[True, True, False, True]
>>> [shows_parts(2, (0, 0, 1, 0, 1), (1, (((0, 1), 2, ()), ((1, 1), 2, ())))), shows_parts(2, (0, 0, 1), (1, (((0, 0, 1), 1, ()),)))]
[True, False]
"""),
    (81, "wholelines", r"""
>>> [content_of((6, -4)), primitive_of((6, -4)), whole_divided((1, 0, -1), (1, 1)), whole_divided((1, 0, 2), (1, 1)), whole_at((1, 2, 3), -2), cleared_line(((1, 2), (-1, 3)))]
[-2, (-3, 2), (1, -1), None, 9, ((-1, 6), (-3, 2))]
"""),
    (82, "divisorbounds", r"""
>>> [points_of((0, -1, 1), 3), points_of((5,), 2), divisor_bound((1, 0, 0, 0, 1)), divisor_bound((6, 5, 1)), divisor_bound((7,))]
[[-1, 2, -2], [0, 1], 3, 18, 7]
"""),
    (83, "lifts", r"""
>>> [is_good_prime((1, 0, 1), 2), is_good_prime((1, 0, 1), 5), mod_parts((1, 0, 1), 5), lift_cofactors((1, 0, 1), 5), lifted_parts((1, 0, 1), 5, 2), is_lift((1, 0, 1), 5, 2, ((7, 1), (18, 1)))]
[False, True, ((2, 1), (3, 1)), ((1,), (4,)), ((7, 1), (18, 1)), True]
"""),
    (84, "lots", r"""
>>> EF = (1, 5, 6)
>>> EL = lifted_parts(EF, 5, 3)
>>> [EL, least_power(EF, 5), lots_of(EF, 5, 3, EL), lot_line(EF, 5, 3, EL, (0,)), first_lot(EF, 5, 3, EL), first_lot((1, 0, 1), 5, 2, ((7, 1), (18, 1)))]
[((42, 1), (63, 1)), 4, [(0,), (1,)], (1, 3), ((0,), (1, 3)), None]
"""),
    (85, "wholefactors", r"""
>>> [[row[:2] for row in whole_split((-4, 0, 8, 0, -4))[1]], whole_split((-6,)), whole_split((3, 6)), is_unsplit_whole((1, 0, 0, 0, 1)), whole_paper((1, 2, 1)), rational_split(((1, 2), (1, 1)))]
[[((-1, 1), 2), ((1, 1), 2)], (-6, ()), (3, (((1, 2), 1, ('first',)),)), True, None, ((1, 2), (((1, 2), 1, ('first',)),))]
"""),
    (86, "wholepapers", r"""
>>> [shows_unsplit_whole((1, 2), ("first",)), shows_unsplit_whole((1, 2, 1), ("first",)), shows_whole_split((-4, 0, 8, 0, -4), whole_split((-4, 0, 8, 0, -4))), shows_whole_split((3, 6), (3, ()))]
[True, False, True, False]
"""),
    (87, "rootthings", r"""
>>> FR = ("root", 0, ((1, 1), (0, 1), (1, 1)))
>>> FN = ((1, 1), (2, 1))
>>> [table_of(FR, FN), trace_of(FR, FN), norm_of(FR, FN), full_line(FR, FN)]
[(((1, 1), (2, 1)), ((-2, 1), (1, 1))), (2, 1), (5, 1), ((5, 1), (-2, 1), (1, 1))]
>>> [full_line(FR, ((3, 1),)), least_line(FR, ((3, 1),)), least_line(FR, FN) == full_line(FR, FN)]
[((9, 1), (-6, 1), (1, 1)), ((-3, 1), (1, 1)), True]
"""),
    (88, "rootlifts", r"""
>>> X, FQ = ("quot", 0), ((1, 4), (0, 1), (1, 1))
>>> [constant_in(X, (1, 2)), constant_of(X, (((1, 2),), ((1, 1),))), constant_of(X, (((0, 1), (1, 1)), ((1, 1),)))]
[(((1, 2),), ((1, 1),)), (1, 2), None]
>>> [is_root_line(FQ), is_root_line(((-1, 4), (0, 1), (1, 1))), is_root_line(((0, 1), (1, 1))), with_root(0, FQ) == ("root", 0, FQ)]
[True, False, False, True]
>>> FS = spread_line(0, FQ, (((0, 1), (2, 1)), ((1, 1),)))
>>> FS
((((0, 1), (1, 1)), ((1, 1),)), (((2, 1),), ((1, 1),)))
"""),
    (89, "rootsums", r"""
>>> sums_derived((), ((FQ, FS),))
(((1, 1),), ((1, 1), (0, 1), (1, 1)))
>>> sums_times((), ((FQ, FS),), (2, 1))
((((1, 1), (0, 1), (1, 1)), ((((0, 1), (1, 1)), ((1, 1),)), (((1, 1),), ((1, 1),)))),)
>>> [is_root_sum((), (FQ, ())), is_root_sum((), (FQ, FS)), sums_joined((), ((FQ, FS[1:]),))]
[False, True, ()]
"""),
    (90, "residues", r"""
>>> FL, FT = (("log", (((0, 1), (1, 1)), ((1, 1),))),), (((), ((1, 1),)), (((1, 1),), ((1, 1),)))
>>> [residue_line((), ((1, 1),), ((1, 1), (0, 1), (1, 1))) == FQ, residue_flaw(FL, FT[1:], FT), residue_flaw(FL, ((((1, 1),), ((0, 1), (1, 1))),), FT)]
[True, 0, None]
"""),
    (91, "logarithms", r"""
>>> [logarithms((), ((1, 1),), ((1, 1), (0, 1), (1, 1))) == ((FQ, FS),), logarithms((), (), ((1, 1), (1, 1))), logarithms(FL, FT[1:], FT)]
[True, (), None]
>>> FE = (("exp", (((0, 1), (1, 1)), ((1, 1),))),)
>>> leftover(FE, FT[1:], (FT[1], FT[1]))
(((1, 1),), ((1, 1),))
"""),
    (92, "oneform", r"""
>>> FX, FXX = ((((0, 1), (1, 1)), ((1, 1),)),), ((((0, 1), (0, 1), (1, 1)), ((1, 1),)),)
>>> [plain_sums(((((-1, 1), (1, 1)), FXX),)) == ((((-2, 1), (1, 1)), FX),), are_one(((((-1, 1), (1, 1)), FXX),), ((((-2, 1), (1, 1)), FX),)), plain_sums(())]
[True, True, ()]
"""),
    (93, "parted", r"""
>>> GX, GO = ((0, 1), (1, 1)), ((1, 1),)
>>> [special_part((), GX), is_normal((), ((0, 1), (0, 1), (1, 1))), parts_of((), (((1, 1), (0, 1), (0, 1), (1, 1)), ((0, 1), (0, 1), (1, 1))))]
[((1, 1),), False, ((((0, 1), (1, 1)), ((1, 1),)), ((), ((1, 1),)), (((1, 1),), ((0, 1), (0, 1), (1, 1))))]
"""),
    (94, "hermite", r"""
>>> GA = (GO, ((1, 1), (0, 1), (2, 1), (0, 1), (1, 1)))
>>> [hermite((), GA)[0], hermite((), GA)[1], hermite_turn((), GO, GX, GX)]
[(((0, 1), (1, 2)), ((1, 1), (0, 1), (1, 1))), (((1, 2),), ((1, 1), (0, 1), (1, 1))), (((-1, 1),), ())]
"""),
    (95, "rational", r"""
>>> G4 = ((GX, GO), (((4, 1),), GO))
>>> integral_of(GA) == ((((0, 1), (1, 2)), ((1, 1), (0, 1), (1, 1))), ((((1, 16), (0, 1), (1, 1)), G4),))
True
>>> [integral_of(((), GO)), integral_of((GX, GO)), integral_of((GO, GX))[1], is_integral((GX, GO), ((((7, 1), (0, 1), (1, 2)), GO), ()))]
[(((), ((1, 1),)), ()), ((((0, 1), (0, 1), (1, 2)), ((1, 1),)), ()), ((((-1, 1), (1, 1)), ((((0, 1), (1, 1)), ((1, 1),)),)),), True]
"""),
    (96, "poles", r"""
>>> G2 = ((-2, 1), (0, 1), (1, 1))
>>> [sign_chain(G2), roots_between(G2, (0, 1), (2, 1)), roots_between(G2, (-2, 1), (2, 1)), poles_between((GO, G2), (0, 1), (1, 1))]
[(((-2, 1), (0, 1), (1, 1)), ((0, 1), (2, 1)), ((2, 1),)), 1, 2, 0]
>>> [definite((GO, ((0, 1), (0, 1), (1, 1))), (1, 1), (2, 1)), definite((GO, ((0, 1), (1, 1))), (-1, 1), (1, 1)), definite((GO, ((0, 1), (1, 1))), (1, 1), (2, 1))[:2]]
[('rational', (1, 2)), ('poles', 1), ('logs', (0, 1))]
"""),
    (97, "stepparts", r"""
>>> HX, HI, H0, H1 = (((0, 1), (1, 1)), ((1, 1),)), (((1, 1),), ((0, 1), (1, 1))), ((), ((1, 1),)), (((1, 1),), ((1, 1),))
>>> HL, HE, HM = ("log", HX), ("exp", HX), (((-1, 1),), ((1, 1),))
>>> [step_parts(HL, ((H1,), (H0, H1))) == (0, (), (H1,), (H0, H1)), step_parts(HE, ((H1,), (H0, H1, H1))) == (-1, (H1,), (HM,), (H1, H1))]
[True, True]
>>> thing_of_parts(HE, -1, (H1,), (HM,), (H1, H1)) == ((H1,), (H0, H1, H1))
True
"""),
    (98, "limited", r"""
>>> [limited_paper(HX, HI) == ("yes", H0, (1, 1)), limited_paper(HX, H1) == ("yes", HX, (0, 1)), takes_limited(HX, HI, ("no", H0, HI))]
[True, True, False]
"""),
    (99, "rischbounds", r"""
>>> reduced_equation(HX, (((-1, 1), (1, 1)), ((0, 1), (0, 1), (1, 1))))
(((0, 1), (1, 1)), ((0, 1), (1, 1)), ((-1, 1), (1, 1)), ((-1, 1), (1, 1)), 0)
"""),
    (100, "rischsolve", r"""
>>> [risch_paper(HX, HI), risch_solution(HX, HX)]
[('no', ((1, 1),), -1, ((1, 1),)), (((-1, 1), (1, 1)), ((1, 1),))]
"""),
    (101, "logarithmic", r"""
>>> [takes_log_line(HX, (H0, H1), ("yes", ((((0, 1), (-1, 1)), ((1, 1),)), HX), ())), log_line_paper(HX, (H0, (((1, 1),), ((1, 1), (1, 1)))))[:2]]
[True, ('no', 1)]
"""),
    (102, "exponential", r"""
>>> exp_line_paper(HX, -1, (HI, H0, HI))
('no', -1, ('no', ((1, 1),), -1, ((1, 1),)))
"""),
    (103, "onestep", r"""
>>> [has_steady_residues(HL, ((H1,), (H0, H1))), has_steady_residues(HL, ((HI,), (H0, H1)))]
[False, True]
>>> [one_step_paper(HL, ((H1,), (H0, H1)))[2] == ("residue", (HX,)), one_step_paper(HE, ((H1,), (H1, H1)))[0]]
[True, 'yes']
"""),
    (104, "terms", r"""
>>> IT = ("over", ("plus", ("x",), ("whole", 1)), ("power", ("x",), 2))
>>> [is_term(IT), is_term(("power", ("x",), 13)), height_of(IT), size_of(IT), part_at(IT, (0, 1)), parts_of(("log", ("x",)))]
[True, False, 3, (1, 2), ('whole', 1), (('x',),)]
"""),
    (105, "termreading", r"""
>>> [read_term(" 2 * x ^ 2"), read_term("-log(x)/3"), first_refused("x+*2"), first_refused("lo"), first_refused("x^13")]
[('times', ('whole', 2), ('power', ('x',), 2)), ('negative', ('over', ('log', ('x',)), ('whole', 3))), 2, 2, 3]
"""),
    (106, "termwriting", r"""
>>> [write_term(IT), write_term(read_term("(-x)*(2*x)-((1)-x)"))]
['(x+1)/x^2', '(-x)*(2*x)-(1-x)']
"""),
    (107, "termslopes", r"""
>>> write_term(derived_term(read_term("x*log(x)")))
'1*log(x)+x*(1/x)'
"""),
    (108, "termled", r"""
>>> IL = tower_of(read_term("log(x)+exp(x-x)"))
>>> [IL, thing_in((), IT), thing_in(IL, read_term("log(x)")) == last_unknown(IL)]
[(('log', (((0, 1), (1, 1)), ((1, 1),))),), (((1, 1), (1, 1)), ((0, 1), (0, 1), (1, 1))), True]
"""),
    (109, "termback", r"""
>>> [write_term(term_of((), (((-1, 2), (0, 1), (1, 1)), ((1, 1), (1, 1))))), write_term(term_of((), (((2, 1), (-3, 1)), ((1, 1),))))]
['(x^2-1/2)/(x+1)', '-(3*x-2)']
"""),
    (111, "answertexts", r"""
>>> IA = (((), ((1, 1),)), ((((-1, 2), (1, 1)), ((((0, 1), (1, 1)), ((1, 1),)),)), (((2, 1), (1, 1)), ((((1, 1), (1, 1)), ((1, 1),)),))))
>>> write_answer((), IA)
'1/2*log(x)-2*log(x+1)'
"""),
    (112, "spreads", r"""
>>> JO, JX = ((1, 1),), ((0, 1), (1, 1))
>>> JT = (("log", (JX, JO)), ("exp", (JX, JO)))
>>> [spread_of((), (JX, JO)), spread_of(JT, last_unknown(JT)), spread_of(JT, lifted_thing(JT, ((), JO)))]
[(((), (((0, 1), (1, 1)), ((1, 1),))),), (((0, 1), (((1, 1),), ((1, 1),))),), ()]
"""),
    (113, "severals", r"""
>>> [len(told_system(JT, last_unknown(JT))[0]), told_system(JT, last_unknown(JT))[1:]]
[2, ((((1, 1), (1, 1)), ((0, 1), (1, 1))), ((1, 1), (0, 1)))]
"""),
    (114, "integrated", r"""
>>> [integrated((), (JO, JX))[0], integrated(JT, last_unknown(JT))[0], integrated(JT[:1], last_unknown(JT[:1]))[0]]
['yes', 'yes', 'yes']
"""),
    (115, "judge", r"""
>>> [takes((), (JO, JO), ("yes", (JX, JO), ())), takes((), (JO, JO), ("yes", (((5, 1), (1, 1)), JO), ())), takes((), (JO, JO), ("yes", (JO, JO), ())), takes(JT, last_unknown(JT), ("open", None))]
[True, True, False, False]
"""),
    (116, "asked", r"""
>>> [told("2*x"), told("1/x"), told("x*exp(x)"), told("exp(x)/x"), told("log(x)"), told("1/(x^2+1)")]
['x^2', 'log(x)', '(x-1)*exp(x)', 'none', 'x*log(x)-x', 'sum(c*log(2*c+x) for c^2+1/4=0)']
"""),
    (117, "makers", r"""
>>> KX, KY = (((0, 1), (1, 1)), ((1, 1),)), (((1, 1), (1, 1)), ((0, 1), (1, 1)))
>>> [log_parts(KX), log_parts(KY), log_parts((((1, 1),), ((1, 1),))), log_relation((KX, KY)), exp_relation((KX, KX)) in ((1, -1), (-1, 1))]
[(((0, 1), 1),), (((0, 1), -1), ((1, 1), 1)), (), None, True]
"""),
    (118, "wholebases", r"""
>>> KH = (((0, 1), (1, 2)), ((1, 1),))
>>> [whole_basis((KX, KH)) == ((KH,), ((2,), (1,))), whole_basis(())]
[True, ((), ())]
"""),
    (119, "valueforms", r"""
>>> KT, KU = ("log", ("power", ("x",), 2)), ("times", ("whole", 2), ("log", ("x",)))
>>> [makers_of(KT, ("exp", ("x",))) == (((0, 1),), (KX,)), are_one(KT, KU), are_one(KT, ("x",)), are_one(("exp", ("negative", ("x",))), ("over", ("whole", 1), ("exp", ("x",))))]
[True, True, False, True]
"""),
    (120, "unlikes", r"""
>>> KP = ((3, 1), ((5, 1),), ())
>>> [values_at(KT, KU, KP), values_at(KT, ("over", ("whole", 1), ("log", ("x",))), ((3, 1), ((0, 1),), ())), unlike_paper(KT, KU), shows_unlike(KT, ("x",), KP), shows_unlike(KT, KU, KP)]
[((10, 1), (10, 1)), ((0, 1), None), None, True, False]
"""),
]


class Examples(unittest.TestCase):
    def test_examples(self):
        names = {}
        for point, module, text in EXAMPLES:
            exec("from towerback." + module + " import *", names)
            test = doctest.DocTestParser().get_doctest(text, names, "point " + str(point), None, None)
            self.assertTrue(test.examples)
            told = []
            result = doctest.DocTestRunner(verbose=False).run(test, out=told.append, clear_globs=False)
            self.assertEqual(result.failed, 0, "".join(told))
            names.update(test.globs)

    @unittest.skipUnless(os.path.exists(DOCUMENT), "the document is not here")
    def test_they_stand_in_the_document(self):
        with open(DOCUMENT, encoding="utf-8") as file:
            lines = [line.strip() for line in file]
        for point, _, text in EXAMPLES:
            for line in text.strip().split("\n"):
                if line not in OTHER_THAN_TOLD:
                    self.assertIn(line, lines, point)


if __name__ == "__main__":
    unittest.main()

